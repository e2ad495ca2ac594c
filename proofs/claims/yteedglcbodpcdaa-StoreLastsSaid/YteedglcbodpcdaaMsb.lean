/-
  The library's sort and its iterators over a map's keys, laid at this program: each field is a fact of the program.
-/
import Derived.Shelf.SlIterI.Nil
import Derived.Shelf.SortM.Plain
import Derived.Shelf.SortM.SortNone
import Derived.Test.YteedglcbodpcdaaMsa
namespace Go.Proofs.Yteedglcbodpcdaa
open Go.Shelf
def keysA_ren : Go.Shelf.Ren := ⟨fun | 7 => 43 | 10 => 55 | n => n, fun | 23 => 53 | 26 => 3 | 3 => 35 | 28 => 82 | 0 => 0 | 27 => 81 | 33 => 70 | 4 => 4 | n => n, fun | n => n⟩
theorem keysA : Go.Proofs.SlLaysZI.n7 Try.prog keysA_ren := {
  mixed := by kernel_rfl
  f7 := ⟨Try.f43.name, by decide, Try.func43.trans (congrArg some (by kernel_rfl))⟩
  f10 := ⟨Try.f55.name, by decide, Try.func55.trans (congrArg some (by kernel_rfl))⟩
  t0 := Try.underlying0
  a0 := Try.isAgg0
  z0 := Try.sizeOf0
  v0 := Try.zeroValue0
  t4 := Try.underlying4
  a4 := Try.isAgg4
  z4 := Try.sizeOf4
  v4 := Try.zeroValue4
  t23 := Try.underlying53
  a23 := Try.isAgg53
  z23 := Try.sizeOf53
  v23 := Try.zeroValue53
  t26 := Try.underlying3
  a26 := Try.isAgg3
  z26 := Try.sizeOf3
  v26 := Try.zeroValue3
  t27 := Try.underlying81
  a27 := Try.isAgg81
  z27 := Try.sizeOf81
  v27 := Try.zeroValue81
  t28 := Try.underlying82
  a28 := Try.isAgg82
  z28 := Try.sizeOf82
  v28 := Try.zeroValue82
  t33 := Try.underlying70
  a33 := Try.isAgg70
  z33 := Try.sizeOf70
  v33 := Try.zeroValue70 }
def sortedA_ren : Go.Shelf.Ren := ⟨fun | 6 => 42 | 8 => 53 | 9 => 54 | 11 => 68 | 13 => 70 | 12 => 69 | 23 => 83 | 24 => 84 | 14 => 74 | 15 => 75 | 16 => 76 | 17 => 77 | 18 => 78 | 19 => 79 | 20 => 80 | 21 => 81 | 22 => 82 | 25 => 86 | 26 => 87 | 27 => 88 | 28 => 89 | 29 => 90 | 30 => 91 | 31 => 92 | n => n, fun | 26 => 3 | 28 => 82 | 24 => 79 | 0 => 0 | 3 => 3 | 37 => 114 | 48 => 86 | 50 => 127 | 4 => 4 | 40 => 119 | 39 => 118 | 45 => 123 | 5 => 5 | 9 => 9 | 51 => 129 | 55 => 133 | 57 => 135 | 58 => 136 | 33 => 70 | n => n, fun | n => n⟩
theorem sortedA : Go.Proofs.SlLaysZI.n6 Try.prog sortedA_ren := {
  mixed := by kernel_rfl
  f6 := ⟨Try.f42.name, by decide, Try.func42.trans (congrArg some (by kernel_rfl))⟩
  f8 := ⟨Try.f53.name, by decide, Try.func53.trans (congrArg some (by kernel_rfl))⟩
  f11 := ⟨Try.f68.name, by decide, Try.func68.trans (congrArg some (by kernel_rfl))⟩
  t0 := Try.underlying0
  a0 := Try.isAgg0
  z0 := Try.sizeOf0
  v0 := Try.zeroValue0
  t24 := Try.underlying79
  a24 := Try.isAgg79
  z24 := Try.sizeOf79
  v24 := Try.zeroValue79
  t26 := Try.underlying3
  a26 := Try.isAgg3
  z26 := Try.sizeOf3
  v26 := Try.zeroValue3
  t28 := Try.underlying82
  a28 := Try.isAgg82
  z28 := Try.sizeOf82
  v28 := Try.zeroValue82
  i26 := by kernel_rfl }
def sortA_ren : Go.Shelf.Ren := ⟨fun | 5 => 54 | 8 => 70 | 7 => 69 | 19 => 83 | 20 => 84 | 10 => 74 | 11 => 75 | 12 => 76 | 13 => 77 | 14 => 78 | 15 => 79 | 16 => 80 | 17 => 81 | 18 => 82 | 30 => 86 | 31 => 87 | 32 => 88 | 33 => 89 | 34 => 90 | 35 => 91 | 40 => 92 | n => n, fun | 23 => 79 | 25 => 3 | 3 => 3 | 32 => 114 | 22 => 79 | 0 => 0 | 44 => 86 | 46 => 127 | 4 => 4 | 36 => 119 | 35 => 118 | 41 => 123 | 5 => 5 | 9 => 9 | 53 => 129 | 57 => 133 | 63 => 135 | 64 => 136 | n => n, fun | n => n⟩
theorem sortA : Go.Proofs.SlLaysM.n5 Try.prog sortA_ren := {
  mixed := by kernel_rfl
  f5 := ⟨Try.f54.name, by decide, Try.func54.trans (congrArg some (by kernel_rfl))⟩
  f7 := ⟨Try.f69.name, by decide, Try.func69.trans (congrArg some (by kernel_rfl))⟩
  f8 := Try.func70.trans (congrArg some (by kernel_rfl))
  f10 := ⟨Try.f74.name, by decide, Try.func74.trans (congrArg some (by kernel_rfl))⟩
  f11 := ⟨Try.f75.name, by decide, Try.func75.trans (congrArg some (by kernel_rfl))⟩
  f12 := ⟨Try.f76.name, by decide, Try.func76.trans (congrArg some (by kernel_rfl))⟩
  f13 := ⟨Try.f77.name, by decide, Try.func77.trans (congrArg some (by kernel_rfl))⟩
  f14 := ⟨Try.f78.name, by decide, Try.func78.trans (congrArg some (by kernel_rfl))⟩
  f15 := ⟨Try.f79.name, by decide, Try.func79.trans (congrArg some (by kernel_rfl))⟩
  f16 := ⟨Try.f80.name, by decide, Try.func80.trans (congrArg some (by kernel_rfl))⟩
  f17 := ⟨Try.f81.name, by decide, Try.func81.trans (congrArg some (by kernel_rfl))⟩
  f18 := ⟨Try.f82.name, by decide, Try.func82.trans (congrArg some (by kernel_rfl))⟩
  f19 := Try.func83.trans (congrArg some (by kernel_rfl))
  f20 := Try.func84.trans (congrArg some (by kernel_rfl))
  f30 := ⟨Try.f86.name, by decide, Try.func86.trans (congrArg some (by kernel_rfl))⟩
  f31 := Try.func87.trans (congrArg some (by kernel_rfl))
  f32 := Try.func88.trans (congrArg some (by kernel_rfl))
  f33 := ⟨Try.f89.name, by decide, Try.func89.trans (congrArg some (by kernel_rfl))⟩
  f34 := ⟨Try.f90.name, by decide, Try.func90.trans (congrArg some (by kernel_rfl))⟩
  f35 := ⟨Try.f91.name, by decide, Try.func91.trans (congrArg some (by kernel_rfl))⟩
  f40 := ⟨Try.f92.name, by decide, Try.func92.trans (congrArg some (by kernel_rfl))⟩
  t0 := Try.underlying0
  a0 := Try.isAgg0
  z0 := Try.sizeOf0
  v0 := Try.zeroValue0
  t3 := Try.underlying3
  a3 := Try.isAgg3
  z3 := Try.sizeOf3
  v3 := Try.zeroValue3
  t4 := Try.underlying4
  a4 := Try.isAgg4
  z4 := Try.sizeOf4
  v4 := Try.zeroValue4
  t5 := Try.underlying5
  a5 := Try.isAgg5
  z5 := Try.sizeOf5
  v5 := Try.zeroValue5
  t9 := Try.underlying9
  a9 := Try.isAgg9
  z9 := Try.sizeOf9
  v9 := Try.zeroValue9
  t22 := Try.underlying79
  a22 := Try.isAgg79
  z22 := Try.sizeOf79
  v22 := Try.zeroValue79
  t23 := Try.underlying79
  a23 := Try.isAgg79
  z23 := Try.sizeOf79
  v23 := Try.zeroValue79
  t25 := Try.underlying3
  a25 := Try.isAgg3
  z25 := Try.sizeOf3
  v25 := Try.zeroValue3
  t32 := Try.underlying114
  a32 := Try.isAgg114
  z32 := Try.sizeOf114
  v32 := Try.zeroValue114
  t35 := Try.underlying118
  a35 := Try.isAgg118
  z35 := Try.sizeOf118
  v35 := Try.zeroValue118
  t36 := Try.underlying119
  a36 := Try.isAgg119
  z36 := Try.sizeOf119
  v36 := Try.zeroValue119
  t41 := Try.underlying123
  a41 := Try.isAgg123
  z41 := Try.sizeOf123
  v41 := Try.zeroValue123
  t44 := Try.underlying86
  a44 := Try.isAgg86
  z44 := Try.sizeOf86
  v44 := Try.zeroValue86
  t46 := Try.underlying127
  a46 := Try.isAgg127
  z46 := Try.sizeOf127
  v46 := Try.zeroValue127
  t53 := Try.underlying129
  a53 := Try.isAgg129
  z53 := Try.sizeOf129
  v53 := Try.zeroValue129
  t57 := Try.underlying133
  a57 := Try.isAgg133
  z57 := Try.sizeOf133
  v57 := Try.zeroValue133
  t63 := Try.underlying135
  a63 := Try.isAgg135
  z63 := Try.sizeOf135
  v63 := Try.zeroValue135
  t64 := Try.underlying136
  a64 := Try.isAgg136
  z64 := Try.sizeOf136
  v64 := Try.zeroValue136 }
end Go.Proofs.Yteedglcbodpcdaa

/-
  The contracts of maps.Copy and of a store's together: loops over a map of pages.
-/
namespace Go.Proofs.Yteedglcbodpcdaa
open Go.RowKit Go.Maps
open Dk (zeros zeros_length)
open Jn (Chg)

/-- the group while some of the step's pages are still to come -/
def mixP (g t : Pgs) (left : Nat → Bool) : Pgs := (List.range g.length).map fun i => if left i then g.getD i none else (t.getD i none).or (g.getD i none)
theorem mixP_length (g t : Pgs) (left : Nat → Bool) : (mixP g t left).length = g.length := by unfold mixP; simp
theorem mixP_at (g t : Pgs) (left : Nat → Bool) (i : Nat) (hi : i < g.length) : (mixP g t left).getD i none = if left i then g.getD i none else (t.getD i none).or (g.getD i none) := by
  unfold mixP
  rw [List.getD_eq_getElem?_getD, List.getElem?_map, List.getElem?_range hi]; rfl
theorem mixP_start (g t : Pgs) (left : Nat → Bool) (h : ∀ i, i < g.length → left i = false → t.getD i none = none) : mixP g t left = g := by
  refine pgs_ext (mixP_length _ _ _) (fun i hi => ?_)
  rw [mixP_length] at hi
  rw [mixP_at _ _ _ _ hi]
  cases e : left i with
  | true => rfl
  | false => rw [h i hi e]; rfl
theorem mixP_end (g t : Pgs) (left : Nat → Bool) (h : ∀ i, left i = false) : mixP g t left = joinP g t := by
  unfold mixP joinP
  apply List.map_congr_left
  intro i _
  rw [h i]; rfl
theorem mixP_step (g t : Pgs) (left left' : Nat → Bool) (i : Nat) (p : List UInt8) (hi : i < g.length) (hp : t.getD i none = some p) (h1 : left' i = false) (h2 : ∀ j, j ≠ i → left' j = left j) : (mixP g t left).set i (some p) = mixP g t left' := by
  refine pgs_ext (by rw [List.length_set, mixP_length, mixP_length]) (fun j hj => ?_)
  rw [List.length_set, mixP_length] at hj
  rw [pgs_set_at _ _ _ _ (by rw [mixP_length]; exact hi), mixP_at _ _ left' _ hj]
  by_cases e : i = j
  · subst e
    rw [if_pos rfl, h1, hp]; rfl
  · rw [if_neg e, mixP_at _ _ left _ hj, h2 j (fun q => e q.symm)]
/-- what has come: one of the pages -/
theorem cameP {c : Pgs} {D : DataW (List UInt8)} (hD : MapIs D c) {x : Int} {p : List UInt8} {kl : Lit} {y : DataW (List UInt8) × List MemPlace} (hkey : keyOf Try.prog 3 (.int .i64 x) = some kl) (hl : Maps.has D kl = true) (hv : pageR (pageV p) = some y) (hat : ∀ zd, D.atKey kl zd = y.1) :
    ∃ i : Nat, x = (i : Int) ∧ kl = .int .i64 (i : Int) ∧ i < c.length ∧ c.getD i none = some p ∧ p.length = 64 := by
  obtain ⟨x', ex, rfl, _⟩ := Maps.keyOf_int_inv Try.underlying3 hkey
  injection ex with _ ex
  subst ex
  rw [hD.has] at hl
  have h0 : 0 ≤ x ∧ (c.getD x.toNat none).isSome = true := by simpa using hl
  obtain ⟨i, rfl⟩ := Int.eq_ofNat_of_zero_le h0.1
  rw [Int.toNat_natCast] at h0
  obtain ⟨q, hq⟩ := Option.isSome_iff_exists.1 h0.2
  obtain ⟨q', hq', e1, e2⟩ := pageR_inv hv
  have hcq := pageV_inj e1
  have := hD.held i q hq .nil
  rw [hat, e2] at this
  injection this with this
  exact ⟨i, rfl, rfl, pgs_lt hq, by rw [hq, hcq, this], by rw [hcq]; exact hq'⟩
theorem start_left {g t : Pgs} {D : DataW (List UInt8)} (hD : MapIs D t) : mixP g t (fun i => Maps.has D (.int .i64 (i : Int))) = g := mixP_start _ _ _ (fun i _ e => by
  rw [hD.has, Int.toNat_natCast] at e
  cases hc : t.getD i none with
  | none => rfl
  | some p => rw [hc] at e; simp at e)
theorem step_left {g t : Pgs} {left : Lit → Bool} {i : Nat} {p : List UInt8} (hi : i < g.length) (hp : t.getD i none = some p) : (mixP g t (fun i => left (.int .i64 (i : Int)))).set i (some p) = mixP g t (fun j => left (.int .i64 (j : Int)) && !(Lit.int .i64 (j : Int)).sameKey (.int .i64 (i : Int))) :=
  mixP_step _ _ _ _ i p hi hp (by simp [Lit.sameKey]) (fun j hj => by
    have hne : (j : Int) ≠ (i : Int) := by omega
    simp [Lit.sameKey, hne])

/-! ### maps.Copy -/
structure CopyAt (w0 : World) (g t r : Nat) (cg ct : Pgs) (D : DataW (List UInt8)) (left : Lit → Bool) (cnt : Nat) (w : World) : Prop where
  rg : w.ranges Try.prog 3 pageR t r (Maps.size D) D left cnt
  map : MapAt w g (mixP cg ct (fun i => left (.int .i64 (i : Int))))
  only : Only [g] w0 w
  sub : ∀ kl, left kl = true → Maps.has D kl = true
theorem CopyAt.next {w0 w w1 w2 : World} {g t r : Nat} {cg ct : Pgs} {D : DataW (List UInt8)} {left left' : Lit → Bool} {cnt cnt' : Nat} (h : CopyAt w0 g t r cg ct D left cnt w) (hr : w0.heap.size ≤ r) (hg : g < w0.heap.size)
    (hrg : w1.ranges Try.prog 3 pageR t r (Maps.size D) D left' cnt') (hgr : w.grownBy w1 (some r)) (hb : Below w1.heap.size w1 w2) :
    w2.ranges Try.prog 3 pageR t r (Maps.size D) D left' cnt' ∧ MapAt w2 g (mixP cg ct (fun i => left (.int .i64 (i : Int)))) ∧ Only [g] w0 w2 := by
  refine ⟨hrg.kept (row := none) ⟨hb.os, hb.tape, hb.output, hb.size, fun k hk _ => hb.block k hk⟩ (by simp) (by simp), ?_, (h.only.newer (Only.grown hgr (by simp)) hr).trans (Only.below hb)⟩
  have hlt : g < w.heap.size := Nat.lt_of_lt_of_le hg h.only.size
  exact (h.map.block (hgr.block g hlt (fun e => by injection e with e; omega))).block (hb.block g (Nat.lt_of_lt_of_le hlt hgr.size))
theorem copy_step {w0 w2 w3 : World} {g t r : Nat} {cg ct : Pgs} {D : DataW (List UInt8)} {left : Lit → Bool} {cnt' i : Nat} {p : List UInt8} (hgt : g ≠ t) (hr : w0.heap.size ≤ r) (hg : g < w0.heap.size) (hsub : ∀ kl, left kl = true → Maps.has D kl = true)
    (hrg : w2.ranges Try.prog 3 pageR t r (Maps.size D) D (fun z => left z && !z.sameKey (.int .i64 (i : Int))) cnt') (ho : Only [g] w0 w2) (hi : i < cg.length) (hp : ct.getD i none = some p)
    (hm : MapAt w3 g ((mixP cg ct (fun i => left (.int .i64 (i : Int)))).set i (some p))) (ht : w2.mapTurned w3 g) : CopyAt w0 g t r cg ct D (fun z => left z && !z.sameKey (.int .i64 (i : Int))) cnt' w3 where
  rg := hrg.kept (row := some g) ht.grown (fun e => by injection e with e; exact hgt e.symm) (fun e => by injection e with e; omega)
  map := by rw [← step_left hi hp]; exact hm
  only := ho.trans (Only.grown ht.grown (by simp))
  sub := fun kl e => hsub kl (by simp at e; exact e.1)
set_option maxRecDepth 100000 in
set_option maxHeartbeats 2000000 in
theorem copy_any {w : World} {g t : Nat} {cg ct : Pgs} (hg : MapAt w g cg) (ht : MapAt w t ct) (hgt : g ≠ t) (hl : ct.length = cg.length) (hl2 : cg.length ≤ 1000) :
    Calls Try.prog 28 #[.map (some g), .map (some t)] w fun e w' => e = .returned (.tuple #[]) ∧ MapAt w' g (joinP cg ct) ∧ Only [g] w w' := by
  obtain ⟨D, hown, hD⟩ := ht
  have HD := Lib.hid hD
  have HG := Lib.hid hg
  have HGL := Lib.hid hg.lt
  have HGT := Lib.hid hgt
  have HL := Lib.hid hl
  have HL2 := Lib.hid hl2
  clear hD hg hgt hl hl2
  go_enter Try.func28, Try.ntmps28
  go_wp2_with (at_range; refine wpList_range_own _ rfl _ 53 rfl 3 35 keyLaw Try.underlying53 pageR t (Maps.size D) D rfl hown ?_; intro w0 hrg0 hg0 hs0)
  go_frame
  have HST : Hid (CopyAt w g t w.heap.size cg ct D (Maps.has D) (Maps.size D) w0) := Lib.hid ⟨hrg0, by rw [start_left HD.out]; exact HG.out.block (hg0.block g HGL.out (by simp)), Only.grownNone hg0, fun _ h => h⟩
  clear hrg0 hg0 hs0 hown
  go_loopw [8] (fun _ wr => ∃ (left : Lit → Bool) (cnt : Nat), CopyAt w g t w.heap.size cg ct D left cnt wr) (fun _ wr => wr.rangeLeft t w.heap.size)
  case atStart => exact ⟨_, _, HST.out⟩
  case round =>
    obtain ⟨left, cnt, hfl⟩ := hrel
    have HFL := Lib.hid hfl
    have hrg := hfl.rg
    clear hfl HST
    go_wp2_with (at_next; refine wpList_next_ranges _ rfl _ rfl 3 keyLaw pageR (Value.int .i64) pageV invK invV t w.heap.size (Maps.size D) D left cnt rfl hrg ?_ ?_)
    · intro _ hl0
      have HL0 := Lib.hid hl0
      clear hl0
      go_wp2
      go_end0
      refine ⟨rfl, ?_, HFL.out.only⟩
      rw [← mixP_end cg ct (fun i => left (.int .i64 (i : Int))) (fun i => HL0.out _)]
      exact HFL.out.map
    · intro x c kl y1 y2 w2 cnt2 hkey hlx hv hat hrg2 hlt hg2 hs2 hen
      obtain ⟨i, rfl, rfl, hi, hci, hcl⟩ := cameP (y := (y1, y2)) HD.out hkey (HFL.out.sub _ hlx) hv hat
      have HI : Hid (i < cg.length) := Lib.hid (by rw [← HL.out]; exact hi)
      have HCI := Lib.hid hci
      have HCL := Lib.hid hcl
      have HNX := Lib.hid (fun (W : World) (hb : Below w2.heap.size w2 W) => HFL.out.next (Nat.le_refl _) HGL.out hrg2 hg2 hb)
      have HLT := Lib.hid hlt
      clear hkey hlx hv hat hci hcl hi hs2 hlt hg2
      go_wp2_with (first
        | ((with_reducible refine wpList_store_new rfl (.tmp 5) (.tmp 12) rfl rfl ?_ ?_ HCL.out ?_); (exact rfl); (exact rfl); intro W2 hP hB2 hz2; have HQ := Lib.hid (HNX.out W2 hB2); clear hen hB2 hz2)
        | (with_reducible refine wpList_load_page hP rfl (.tmp 5) rfl rfl ?_)
        | (at_mapUpdate; go_must (refine wpList_map_store HQ.out.2.1 i (by rw [mixP_length]; exact HI.out) (by rw [mixP_length]; exact HL2.out) HCL.out rfl (.tmp 13) (.tmp 14) (.tmp 15) rfl rfl rfl rfl ?_); intro W3 hm3 ht3; have HC3 := Lib.hid (copy_step HGT.out (Nat.le_refl _) HGL.out HFL.out.sub HQ.out.1 HQ.out.2.2 HI.out HCI.out hm3 ht3); clear hm3 ht3))
      go_frame
      go_wp2
      go_roundw
      case rel => exact ⟨_, _, HC3.out⟩
      case measure => rw [HC3.out.rg.left_eq, hrg.left_eq]; exact HLT.out

/-! ### together -/
structure TogAt (w0 : World) (t r : Nat) (D : DataW (List UInt8)) (left : Lit → Bool) (cnt : Nat) (w : World) : Prop where
  rg : w.ranges Try.prog 3 pageR t r (Maps.size D) D left cnt
  bel : Below w0.heap.size w0 w
  sub : ∀ kl, left kl = true → Maps.has D kl = true
theorem TogAt.next {w0 w w1 w2 : World} {t r : Nat} {D : DataW (List UInt8)} {left : Lit → Bool} {cnt cnt' i : Nat} (h : TogAt w0 t r D left cnt w) (hr : w0.heap.size ≤ r)
    (hrg : w1.ranges Try.prog 3 pageR t r (Maps.size D) D (fun z => left z && !z.sameKey (.int .i64 (i : Int))) cnt') (hgr : w.grownBy w1 (some r)) (hb : Below w1.heap.size w1 w2) : TogAt w0 t r D (fun z => left z && !z.sameKey (.int .i64 (i : Int))) cnt' w2 where
  rg := hrg.kept (row := none) ⟨hb.os, hb.tape, hb.output, hb.size, fun k hk _ => hb.block k hk⟩ (by simp) (by simp)
  bel := (h.bel.trans ((Only.grown (l := [r]) hgr (by simp)).toBelow h.bel.size (fun k hk => by rw [List.mem_singleton] at hk; omega))).trans (hb.mono (Nat.le_trans h.bel.size hgr.size))
  sub := fun kl e => h.sub kl (by simp at e; exact e.1)
theorem cnt_mix {g t : Pgs} {left : Lit → Bool} {i : Nat} {p : List UInt8} (hi : i < g.length) (hp : t.getD i none = some p) (hl : left (.int .i64 (i : Int)) = true) :
    cntO (mixP g t (fun j => left (.int .i64 (j : Int)) && !(Lit.int .i64 (j : Int)).sameKey (.int .i64 (i : Int)))) = if (g.getD i none).isSome then cntO (mixP g t (fun i => left (.int .i64 (i : Int)))) else cntO (mixP g t (fun i => left (.int .i64 (i : Int)))) + 1 := by
  rw [← step_left hi hp, cntO_set _ _ _ (by rw [mixP_length]; exact hi), mixP_at _ _ _ _ hi, hl]; rfl
theorem cntO_le (c : Pgs) : cntO c ≤ c.length := List.countP_le_length
set_option maxRecDepth 100000 in
set_option maxHeartbeats 2000000 in
theorem stog_any {w : World} {b : Blk} {s : Sto} (h : StoreAt w b s) : Calls Try.prog 27 #[.pointer (some ⟨b.s, 0, none⟩)] w fun e w' => e = .returned (.int .i64 (stog s : Int)) ∧ Below w.heap.size w w' := by
  have HS := Lib.hid h
  have c4 := h.c4
  have c5 := h.c5
  have hlen := h.group.len
  obtain ⟨D, hown, hD⟩ := h.step
  have HD := Lib.hid hD
  have HL : Hid (s.step.length = s.group.length) := Lib.hid (by rw [h.ok.slen, h.ok.glen])
  have HN : Hid (s.group.length ≤ 1000) := Lib.hid (by rw [h.ok.glen]; have := h.disk.ok.small; omega)
  have HST0 : Hid (cntO (mixP s.group s.step (fun i => Maps.has D (.int .i64 (i : Int)))) = List.countP (fun x => x.isSome) s.group) := Lib.hid (by rw [start_left HD.out]; rfl)
  clear h hD
  generalize List.countP (fun x => x.isSome) s.group = n0 at hlen HST0
  go_enter Try.func27, Try.ntmps27
  go_wp2_with (at_range; refine wpList_range_own _ rfl _ 53 rfl 3 35 keyLaw Try.underlying53 pageR b.t (Maps.size D) D rfl hown ?_; intro w0 hrg0 hg0 hs0)
  go_frame
  have HST : Hid (TogAt w b.t w.heap.size D (Maps.has D) (Maps.size D) w0) := Lib.hid ⟨hrg0, (Only.grownNone (l := []) hg0).toBelow (Nat.le_refl _) (by simp), fun _ h => h⟩
  clear hrg0 hg0 hs0 hown hlen c4 c5
  go_loopw [3] (fun i wr => ∃ (left : Lit → Bool) (cnt : Nat), i = .int .i64 (cntO (mixP s.group s.step (fun i => left (.int .i64 (i : Int)))) : Int) ∧ TogAt w b.t w.heap.size D left cnt wr) (fun _ wr => wr.rangeLeft b.t w.heap.size)
  case atStart => exact ⟨_, _, by rw [HST0.out], HST.out⟩
  case round =>
    obtain ⟨left, cnt, rfl, hfl⟩ := hrel
    have HFL := Lib.hid hfl
    have hrg := hfl.rg
    have HW := Lib.hid (HS.out.below hfl.bel)
    clear hfl HST
    obtain ⟨N, hNN⟩ : ∃ N, cntO (mixP s.group s.step (fun i => left (.int .i64 (i : Int)))) = N := ⟨_, rfl⟩
    have HNN := Lib.hid hNN
    have hN : N ≤ 1000 := by rw [← hNN]; exact Nat.le_trans (cntO_le _) (by rw [mixP_length]; exact HN.out)
    rw [hNN]
    clear hNN
    go_wp2_with (at_next; refine wpList_next_ranges _ rfl _ rfl 3 keyLaw pageR (Value.int .i64) pageV invK invV b.t w.heap.size (Maps.size D) D left cnt rfl hrg ?_ ?_)
    · intro _ hl0
      have HL0 := Lib.hid hl0
      clear hl0
      go_wp2
      go_ret
      refine ⟨?_, HFL.out.bel⟩
      unfold stog
      rw [← mixP_end s.group s.step (fun i => left (.int .i64 (i : Int))) (fun i => HL0.out _), HNN.out]
      rfl
    · intro x c kl y1 y2 w2 cnt2 hkey hlx hv hat hrg2 hlt hg2 hs2 hen
      obtain ⟨i, rfl, rfl, hi, hci, hcl⟩ := cameP (y := (y1, y2)) HD.out hkey (HFL.out.sub _ hlx) hv hat
      have HI : Hid (i < s.group.length) := Lib.hid (by rw [← HL.out]; exact hi)
      have hi2 : i ≤ 1000 := by have := HI.out; have := HN.out; omega
      have HCM := Lib.hid (cnt_mix HI.out hci hlx)
      rw [HNN.out] at HCM
      have HNX := Lib.hid (fun (W : World) (hb : Below w2.heap.size w2 W) => HFL.out.next (Nat.le_refl _) hrg2 hg2 hb)
      have HLT := Lib.hid hlt
      have HW2 := Lib.hid (HS.out.below (HFL.out.next (Nat.le_refl _) hrg2 hg2 (Below.refl _ _)).bel)
      have c5 := HW2.out.c5
      have hlook := HW2.out.group.look i hi2
      have HGP := Lib.hid (fun p (e : s.group.getD i none = some p) => (HS.out.ok.gpg i p e).1)
      clear hkey hlx hv hat hci hcl hi hs2 hlt hg2
      cases hgi : s.group.getD i none with
      | some q =>
        rw [hgi] at hlook HCM HGP
        simp only [Option.getD_some, Option.isSome_some] at hlook HCM
        have HQ := Lib.hid (HGP.out q rfl)
        go_wp2_with (first
          | ((with_reducible refine wpList_store_new rfl (.tmp 5) (.tmp 28) rfl rfl ?_ ?_ HQ.out ?_); (exact rfl); (exact rfl); intro W2 hP hB2 hz2; have HT := Lib.hid (HNX.out W2 hB2); clear hen hB2 hz2 hlook c5))
        go_roundw
        case rel => exact ⟨_, _, by rw [HCM.out]; rfl, HT.out⟩
        case measure => rw [HT.out.rg.left_eq, hrg.left_eq]; exact HLT.out
      | none =>
        rw [hgi] at hlook HCM
        simp only [Option.getD_none, Option.isSome_none] at hlook HCM
        go_wp2_with (first
          | ((with_reducible refine wpList_store_new rfl (.tmp 5) (.tmp 28) rfl rfl ?_ ?_ zeros_length ?_); (exact rfl); (exact rfl); intro W2 hP hB2 hz2; have HT := Lib.hid (HNX.out W2 hB2); clear hen hB2 hz2 hlook c5))
        go_roundw
        case rel => exact ⟨_, _, by rw [HCM.out]; go_num, HT.out⟩
        case measure => rw [HT.out.rg.left_eq, hrg.left_eq]; exact HLT.out
end Go.Proofs.Yteedglcbodpcdaa

/-
  A map's keys, sorted: the contract of slices.Sorted over maps.Keys at this program, in words of its own.
-/
namespace Go.Proofs.Yteedglcbodpcdaa
open Go.RowKit Go.Maps Go.Sort Go.Shelf
open Jn (Chg)

theorem sortsA (m : Nat) : AnyZI.SortsIn Try.prog sortedA_ren Fence.wide m :=
  ⟨fun blk off cap ss W hH hblk hsz => callsIn_wide.2 (AnyM.slices_Sort_int sortA blk off cap ss W hH hblk hsz),
   fun p cap W => callsIn_wide.2 (AnyM.slices_Sort_int_none sortA p cap W)⟩
theorem keys_c (mb : Option Nat) (W : World) : Calls Try.prog 43 #[.map mb] W fun e w' => e = .returned (.func (.func 55) #[] #[.pointer (some ⟨W.heap.size, 0, none⟩)]) ∧ w' = W.alloc (.cells #[.map mb] 53) :=
  (callsIn_wide (n := 5)).1 (AnyZI.keys_in keysA Fence.wide 5 trivial rfl mb W)
set_option maxRecDepth 100000 in
theorem sorted_c {H : Type} (b nn : Nat) (D0 : DataW H) (R : Value → Option (DataW H × List MemPlace)) (w : World) (hown : w.ownsMap Try.prog 3 R b nn D0) (hmax : Maps.size D0 ≤ maxLen) (hbytes : Maps.size D0 * 8 ≤ 140737488355328) :
    Calls Try.prog 42 #[.func (.func 55) #[] #[.pointer (some ⟨w.heap.size, 0, none⟩)]] (w.alloc (.cells #[.map (some b)] 53)) fun e w' => ∃ (v : Value) (ss : List Int), e = .returned v ∧ ss.Perm (intKeys D0) ∧
      w'.ownsRow w.heap.size 3 1 v ss.length ((ss.mergeSort (fun x y => decide (x ≤ y))).map encZ) ∧ Below w.heap.size w w' := by
  refine (callsIn_wide (n := 5)).1 ?_
  have hbl := hown.lt
  have hseq : SeqGives Fence.wide 2 Try.prog 55 #[.pointer (some ⟨w.heap.size, 0, none⟩)] encZ (fun ss => ss.Perm (intKeys D0)) (Maps.size D0) (w.alloc (.cells #[.map (some b)] 53)) :=
    AnyZI.keys_gives (ρ := keysA_ren) { keysA with } Fence.wide _ trivial rfl (by omega) w.heap.size b nn D0 _ (by simp) (by simp) (by
      obtain ⟨es, clock, hb, Ft, hs, hD⟩ := hown
      exact ⟨es, clock, (Below.heap_alloc _ _ b hbl).trans hb, Ft, hs, hD⟩)
  have cS := AnyZI.sorted_in sortedA Fence.wide 5 trivial trivial trivial trivial rfl (by omega) (sortsA _) (enters_of Try.func54 (by kernel_rfl) rfl) 55 #[.pointer (some ⟨w.heap.size, 0, none⟩)] trivial (enters_of Try.func55 (by kernel_rfl) rfl) _ _ hmax hbytes _ hseq
  refine cS.mono ?_
  rintro e w' ⟨v, ss, rfl, hS, hrow, hnil, hb⟩
  exact ⟨v, ss, rfl, hS, ownsRow_base_a hrow (by simp), ((Below.refl _ w).alloc (Nat.le_refl _) _).trans (hb.mono (by simp))⟩
/-- the keys are the changes' numbers, rising -/
theorem keys_chgs {w : World} {b n : Nat} {D : DataW (List UInt8)} {c : Pgs} (hown : w.ownsMap Try.prog 3 pageR b n D) (hD : MapIs D c) {ss : List Int} (hs : ss.Perm (intKeys D)) : ss.mergeSort (fun x y => decide (x ≤ y)) = (chgs c).map (·.no) := by
  obtain ⟨es, hE, hpw, _⟩ := hown.entries keyLaw
  obtain ⟨es', hE', hko⟩ := hown.keysOf
  obtain rfl : es = es' := by rw [hE] at hE'; simpa using hE'
  subst hE
  have hp := chgs_pw c
  have hpw' : ((chgs c).map (·.no)).Pairwise (fun x y => x < y) := List.pairwise_map.2 hp
  have hk : ((chgs c).map (·.no)).Perm (intKeys (.map es)) := perm_intKeys hpw (fun p hp => by obtain ⟨v, hv⟩ := hko p hp; obtain ⟨x, _, hx, _⟩ := Maps.keyOf_i64 Try.underlying3 hv; exact ⟨x, hx⟩) (hpw'.imp fun h => Int.ne_of_lt h) (fun x => by
    rw [hD.has, List.mem_map]
    constructor
    · rintro ⟨y, hy, rfl⟩
      obtain ⟨k, h1, h2⟩ := chgs_mem.1 hy
      rw [h1, Int.toNat_natCast, h2]; simp
    · intro h
      have h0 : 0 ≤ x ∧ (c.getD x.toNat none).isSome = true := by simpa using h
      obtain ⟨k, rfl⟩ := Int.eq_ofNat_of_zero_le h0.1
      rw [Int.toNat_natCast] at h0
      obtain ⟨q, hq⟩ := Option.isSome_iff_exists.1 h0.2
      exact ⟨⟨(k : Int), q⟩, chgs_mem.2 ⟨k, rfl, hq⟩, rfl⟩)
  rw [show (fun x y : Int => decide (x ≤ y)) = leI from rfl, mergeSort_of_perm_i (hs.trans hk.symm)]
  exact List.mergeSort_of_pairwise (hpw'.imp fun h => by simp only [leI, decide_eq_true_eq]; omega)
theorem sorted_chgs {w : World} {b : Nat} {c : Pgs} (h : MapAt w b c) (hc : c.length ≤ 1000) :
    Calls Try.prog 42 #[.func (.func 55) #[] #[.pointer (some ⟨w.heap.size, 0, none⟩)]] (w.alloc (.cells #[.map (some b)] 53)) fun e w' => ∃ v : Value, e = .returned v ∧
      w'.ownsRow w.heap.size 3 1 v (cntO c) ((chgs c).map fun x => Value.int .i64 x.no) ∧ Below w.heap.size w w' := by
  obtain ⟨D, hown, hD⟩ := h
  have hsz : Maps.size D ≤ 1000 := by rw [hD.size]; exact Nat.le_trans List.countP_le_length hc
  refine (sorted_c b _ D pageR w hown (by unfold maxLen; omega) (by omega)).mono ?_
  rintro e w' ⟨v, ss, rfl, hS, hrow, hb⟩
  have hk := keys_chgs hown hD hS
  have hl : ss.length = cntO c := by
    have := congrArg List.length hk
    rw [List.length_mergeSort, List.length_map, chgs_length] at this
    exact this
  rw [hk, hl, List.map_map] at hrow
  exact ⟨v, rfl, hrow, hb⟩
end Go.Proofs.Yteedglcbodpcdaa

/-
  The contract of a store's changes: the group's pages, rising.
-/
namespace Go.Proofs.Yteedglcbodpcdaa
open Go.RowKit Go.Maps
open Dk (zeros zeros_length)
open Jn (Chg)

theorem wpList_buildG {ops : Array Oper} {rest : List Oper} {o : Oper} {a : Act} {w : World} {Q : Exit → Act → World → Prop} (t : TypeId) (parts : Array (Nat × Operand)) (cells : Array Value) (d : Option Tmp) (ho : o.op = .build t parts) (hd : o.dst = d) (hw : Region.wanted o (yielded ops a.tmps) = true) (hf : Try.prog.built t (parts.map fun (i, x) => (i, a.eval x)).toList = some cells)
    (h : wpList Try.prog ops Q rest (a.put d (.agg cells)) w) : wpList Try.prog ops Q (o :: rest) a w :=
  BigFrame.wpList_want hw fun _ hK => wp_build t parts ho (by rw [hf]; rfl) (by
    rw [hf]
    subst hd
    exact hK _ _ h)
theorem chg_type : ∃ i z, Try.prog.info? 85 = some i ∧ i.zero = some z ∧ i.size = 65 := by
  obtain ⟨i, hi, hz, hs, _⟩ := info_parts info_chg
  exact ⟨i, _, hi, hz, hs⟩
theorem run_buildChg1 (w : World) (c : Chg) (hp : c.page.length = 64) : (Instr.buildSlice 67 1 #[(0, chgV c)]).run Try.prog w = .ok (.slice (some ⟨w.heap.size, 0, none⟩) 1 1) (w.alloc (.cells (chgVals c).toArray 85)) := by
  obtain ⟨i, z, hi, hz, hs⟩ := chg_type
  refine run_buildSlice w 67 85 1 #[(0, chgV c)] _ i z Try.underlying67 hi hz (by rw [hs]; omega) (by rw [hs]; omega) ?_
  rw [hs]
  have h := Great.fill_whole (s := 65) (by omega) [chgV c] ((Array.range (1 * 65)).map (z.cells[· % z.cells.size]!)) (fun v hv => by
    rw [List.mem_singleton] at hv
    rw [hv]
    show (chgVals c).toArray.size = 65
    rw [List.size_toArray, chgVals_length hp]) (by simp)
  refine h.trans ?_
  simp [chgV, Value.cells]
theorem wpList_buildChg1 {ops : Array Oper} {rest : List Oper} {o : Oper} {a : Act} {w : World} {Q : Exit → Act → World → Prop} (c : Chg) (hp : c.page.length = 64) (x : Operand) (ho : o.op = .buildSlice 67 1 #[(0, x)]) (hw : Region.wanted o (yielded ops a.tmps) = true) (hx : a.eval x = chgV c)
    (h : wpList Try.prog ops Q rest (a.put o.dst (.slice (some ⟨w.heap.size, 0, none⟩) 1 1)) (w.alloc (.cells (chgVals c).toArray 85))) : wpList Try.prog ops Q (o :: rest) a w :=
  BigFrame.wpList_want hw fun _ hK => by
    have hr := run_buildChg1 w c hp
    unfold Oper.wp execOp
    simp only [ho, List.map_toArray, List.map_cons, List.map_nil, hx, Sem.run_bind, hr, Result.andThen_ok]
    exact hK _ _ h

theorem run_make_cap (w : World) (n : Nat) (hn : n ≤ 1000) : (Instr.makeSlice 67 (.int .i64 0) (.int .i64 (n : Int))).run Try.prog w = .ok (.slice (some ⟨w.heap.size, 0, none⟩) 0 n) (w.alloc (.cells (zeroTab n) 85)) := by
  obtain ⟨i, hi, hz, hs, hb⟩ := info_parts info_chg
  have := run_make (P := Try.prog) w 67 85 i (.agg chgZero) Try.underlying67 hi hz .i64 .i64 0 (n : Int) (by omega) (by omega) (by rw [hb]; omega) (by omega)
  rw [hs, Int.toNat_natCast] at this
  exact this
theorem owns_made (w : World) (n : Nat) (hn : n ≤ 1000) : (w.alloc (.cells (zeroTab n) 85)).ownsRow w.heap.size 85 65 (.slice (some ⟨w.heap.size, 0, none⟩) 0 n) 0 [] :=
  World.ownsRow_made w _ n (Nat.le_refl _) (by unfold maxLen; omega) (zeroTab_size n)
theorem flat_len (xs : List Chg) (h : ∀ x ∈ xs, x.page.length = 64) : (xs.flatMap chgVals).length = xs.length * 65 := by
  induction xs with
  | nil => rfl
  | cons x r ih =>
    rw [List.flatMap_cons, List.length_append, ih (fun y hy => h y (by simp [hy])), chgVals_length (h x (by simp)), List.length_cons]; omega
theorem flat_at (xs : List Chg) (h : ∀ x ∈ xs, x.page.length = 64) : ∀ (i : Nat) (x : Chg) (j : Nat) (v : Value), xs[i]? = some x → (chgVals x)[j]? = some v → (xs.flatMap chgVals)[i * 65 + j]? = some v := by
  induction xs with
  | nil => intro i x j v hx; simp at hx
  | cons y r ih =>
    intro i x j v hx hv
    have hy := chgVals_length (h y (by simp))
    rw [List.flatMap_cons]
    cases i with
    | zero =>
      simp at hx
      subst hx
      have hj : j < 65 := by rw [← hy]; exact (List.getElem?_eq_some_iff.1 hv).1
      rw [Nat.zero_mul, Nat.zero_add, List.getElem?_append_left (by rw [hy]; exact hj)]
      exact hv
    | succ i =>
      rw [List.getElem?_append_right (by rw [hy]; omega), hy, show (i + 1) * 65 + j - 65 = i * 65 + j by omega]
      exact ih (fun z hz => h z (by simp [hz])) i x j v (by simpa using hx) hv
/-- a slice of changes that the call owns -/
theorem owns_chAt {w : World} {base : Nat} {A : Option Addr} {n c : Nat} {xs : List Chg} (h : w.ownsRow base 85 65 (.slice A n c) n (xs.flatMap chgVals)) (hx : ∀ x ∈ xs, x.page.length = 64) (hn : n = xs.length) {L : List Nat} (hL : ∀ k ∈ L, k < base) : ChAt w A L xs := fun h0 => by
  obtain ⟨h1, h2⟩ := h
  rcases h2 with ⟨e, e2⟩ | ⟨g, cap, cur, e, hb, hg, _, _, hsz, htk⟩
  · exfalso; omega
  · injection e with e _ _
    refine ⟨g, 0, e, (Array.getElem?_eq_some_iff.1 hg).1, fun q => by have := hL g q; omega, fun i x hxi j v hv => ?_⟩
    have hf := flat_at xs hx i x j v hxi hv
    rw [← htk] at hf
    have hlt : i * 65 + j < n * 65 := by
      have := (List.getElem?_eq_some_iff.1 hf).1
      rw [List.length_take] at this; omega
    rw [List.getElem?_take_of_lt hlt] at hf
    simp only [World.cell?, hg, Nat.zero_add]
    simp only [Option.isSome_none, Bool.false_eq_true, if_false]
    rw [← Array.getElem?_toList]
    exact hf
/-- the loop -/
structure ChI (w : World) (cs : List Chg) (g : Nat) (l : Value) (k : Nat) (W : World) : Prop where
  row : W.ownsRow w.heap.size 85 65 l k ((cs.take k).flatMap chgVals)
  keys : ∀ i x, cs[i]? = some x → W.cell? ⟨g, i, none⟩ = some (.int .i64 x.no)
  bel : Below w.heap.size w W
  ne : l.ownBlock ≠ some g
  glt : g < W.heap.size
theorem ChI.next {w : World} {cs : List Chg} {g : Nat} {l l' : Value} {k : Nat} {W W' : World} {x : Chg} (h : ChI w cs g l k W) (hx : cs[k]? = some x) (hrow : W'.ownsRow w.heap.size 85 65 l' (k + 1) ((cs.take k).flatMap chgVals ++ chgVals x))
    (hg : (W.alloc (.cells (chgVals x).toArray 85)).grownBy W' l.ownBlock) (hloc : l'.ownBlock = l.ownBlock ∨ l'.ownBlock = some (W.alloc (.cells (chgVals x).toArray 85)).heap.size) : ChI w cs g l' (k + 1) W' where
  row := by
    obtain ⟨h1, h2⟩ := List.getElem?_eq_some_iff.1 hx
    rw [List.take_succ_eq_append_getElem h1, List.flatMap_append, h2]
    simpa using hrow
  keys := fun i y hy => by
    have e1 : W'.cell? ⟨g, i, none⟩ = (W.alloc (.cells (chgVals x).toArray 85)).cell? ⟨g, i, none⟩ := World.cell?_of_block (a := ⟨g, i, none⟩) (hg.block g (by have := h.glt; simp; omega) (fun e => h.ne e.symm))
    rw [e1]
    exact (((Below.refl W.heap.size W).alloc (Nat.le_refl _) (.cells (chgVals x).toArray 85)).cell (p := ⟨g, i, none⟩) h.glt).trans (h.keys i y hy)
  bel := (h.bel.alloc h.bel.size _).grown hg (by have := h.bel.size; simp; omega) (fun j hj => (h.row.lt j hj).1)
  ne := by
    rcases hloc with e | e
    · rw [e]; exact h.ne
    · rw [e]
      have := h.glt
      intro q
      injection q with q
      simp at q
      omega
  glt := Nat.lt_of_lt_of_le h.glt (Nat.le_trans (by simp) hg.size)
theorem cell_new (w : World) (vs : List Value) (t : TypeId) : ∀ j u, vs[j]? = some u → (w.alloc (.cells vs.toArray t)).cell? ((⟨w.heap.size, 0, none⟩ : Addr).add j) = some u := fun j u hj => by
  have := (rowAt_new w vs t).range j u hj
  rw [Nat.zero_add] at this
  unfold Addr.add
  by_cases e : j = 0
  · subst e; rw [if_pos rfl]; exact this
  · rw [if_neg e, Nat.zero_add]; exact this
theorem owns_slice {w : World} {base : Nat} {e : TypeId} {size : Nat} {v : Value} {k : Nat} {xs : List Value} (h : w.ownsRow base e size v k xs) : ∃ A c, v = .slice A k c := by
  rcases h.2 with ⟨e1, e2⟩ | ⟨g, cap, cur, e1, _⟩
  · exact ⟨none, 0, by rw [e1, e2]⟩
  · exact ⟨_, _, e1⟩
set_option maxRecDepth 100000 in
set_option maxHeartbeats 2000000 in
theorem schgs_any {w : World} {b : Blk} {s : Sto} (h : StoreAt w b s) : Calls Try.prog 30 #[.pointer (some ⟨b.s, 0, none⟩)] w fun e w' =>
    ∃ (A : Option Addr) (c : Nat), e = .returned (.slice A (chgs s.group).length c) ∧ ChAt w' A b.all (chgs s.group) ∧ Below w.heap.size w w' := by
  have HS := Lib.hid h
  have c5 := h.c5
  have hlen := h.group.len
  have HGL : Hid (s.group.length ≤ 1000) := Lib.hid (by rw [h.ok.glen]; have := h.disk.ok.small; omega)
  have HPG := Lib.hid (chgs_pages h.ok.gpg)
  have HN : Hid (cntO s.group = (chgs s.group).length) := Lib.hid (chgs_length _).symm
  have hn : cntO s.group ≤ 1000 := Nat.le_trans (cntO_le _) HGL.out
  have HLT := Lib.hid h.lt
  have HLK := Lib.hid (fun (W : World) (hW : Below w.heap.size w W) (i : Nat) (hi : i ≤ 1000) => (h.below hW).group.look1 i hi)
  have HC5 := Lib.hid (fun (W : World) (hW : Below w.heap.size w W) => (h.below hW).c5)
  have HMM := Lib.hid (fun x (hx : x ∈ chgs s.group) => chgs_mem.1 hx)
  clear h
  have hlen' : ∀ ty, (Builtin.len_ #[53] ty #[.map (some b.g)]).run Try.prog w = .ok (.int .i64 ((chgs s.group).length : Nat)) w := fun ty => by
    rw [← HN.out]; exact hlen ty
  rw [HN.out] at hn
  clear hlen
  have HSR := Lib.hid (fun (W : World) (hW : Below w.heap.size w W) => sorted_chgs (HS.out.below hW).group HGL.out)
  rw [HN.out] at HSR
  generalize chgs s.group = cs at *
  obtain ⟨n, hcn⟩ : ∃ n, cs.length = n := ⟨_, rfl⟩
  have HCN := Lib.hid hcn
  rw [hcn] at hlen' hn HSR HN ⊢
  clear hcn
  have hmk := run_make_cap w n hn
  have HOW := Lib.hid (owns_made w n hn)
  have HW1 : Hid (Below w.heap.size w (w.alloc (.cells (zeroTab n) 85))) := Lib.hid ((Below.refl _ _).alloc (Nat.le_refl _) _)
  have HSZ : Hid (w.heap.size < (w.alloc (.cells (zeroTab n) 85)).heap.size) := Lib.hid (by simp)
  have c5a : (w.alloc (.cells (zeroTab n) 85)).cell? ⟨b.s, 5, none⟩ = some (.map (some b.g)) := HC5.out _ HW1.out
  go_enter Try.func30, Try.ntmps30
  go_wp2_with fail
  clear hmk hlen' c5
  generalize w.alloc (.cells (zeroTab n) 85) = w1 at HOW HW1 HSZ c5a ⊢
  refine (keys_c _ _).mono ?_
  rintro e w2 ⟨rfl, rfl⟩
  go_wp2_with fail
  refine (HSR.out w1 HW1.out).mono ?_
  rintro e w3 ⟨v, rfl, hrow, hB3⟩
  have HB3 : Hid (Below w.heap.size w w3) := Lib.hid (HW1.out.trans (hB3.mono HW1.out.size))
  have HO3 : Hid (w3.ownsRow w.heap.size 85 65 (.slice (some ⟨w.heap.size, 0, none⟩) 0 n) 0 []) := Lib.hid (HOW.out.kept (row := none) ⟨hB3.os, hB3.tape, hB3.output, hB3.size, fun k hk _ => hB3.block k hk⟩ (Or.inr (by simp [Value.ownBlock])))
  obtain ⟨hl, hh⟩ := hrow
  rcases hh with ⟨rfl, hn0⟩ | ⟨g, cap, cur, rfl, hg1, hg2, hg3, hg4, hg5, hg6⟩
  · have HNIL : Hid (cs = []) := Lib.hid (List.eq_nil_of_length_eq_zero (by rw [HCN.out]; exact hn0))
    subst hn0
    clear hl HSR HOW HW1 HSZ c5a hB3
    go_wp2_with fail
    go_loopw [3, 19] (fun l i wr => l = .slice (some ⟨w.heap.size, 0, none⟩) 0 0 ∧ i = .int .i64 0 ∧ wr = w3) (fun _ _ _ => 0)
    case atStart => exact ⟨rfl, rfl, rfl⟩
    case round =>
      obtain ⟨rfl, rfl, rfl⟩ := hrel
      go_wp2_with fail
      go_ret
      refine ⟨_, _, rfl, ?_, HB3.out⟩
      rw [HNIL.out]
      intro h0
      simp at h0
  · have HK : Hid (∀ i x, cs[i]? = some x → w3.cell? ⟨g, i, none⟩ = some (.int .i64 x.no)) := Lib.hid (fun i x hx => by
      have h1 : (cs.map fun x => Value.int .i64 x.no)[i]? = some (.int .i64 x.no) := by rw [List.getElem?_map, hx]; rfl
      rw [← hg6] at h1
      have hlt : i < n * 1 := by
        have := (List.getElem?_eq_some_iff.1 h1).1
        rw [List.length_take] at this; omega
      rw [List.getElem?_take_of_lt hlt] at h1
      simp only [World.cell?, hg2]
      simp only [Option.isSome_none, Bool.false_eq_true, if_false]
      rw [← Array.getElem?_toList]
      exact h1)
    have HGG : Hid (g < w3.heap.size) := Lib.hid (Array.getElem?_eq_some_iff.1 hg2).1
    have HST : Hid (ChI w cs g (.slice (some ⟨w.heap.size, 0, none⟩) 0 n) 0 w3) := Lib.hid ⟨HO3.out, HK.out, HB3.out, (by have := HSZ.out; simp [Value.ownBlock]; omega), HGG.out⟩
    have HCAP : Hid (cap ≤ maxLen) := Lib.hid hg4
    unfold maxLen at hg4
    clear hl hg1 hg2 hg5 hg6 HK HGG HB3 HO3 HSR HOW HW1 HSZ c5a hB3
    go_wp2_with fail
    go_loopw [3, 19] (fun l i wr => ∃ (A : Option Addr) (c k : Nat), k ≤ n ∧ l = .slice A k c ∧ i = .int .i64 k ∧ ChI w cs g l k wr) (fun _ i _ => n - (intOf i).toNat)
    case atStart => exact ⟨_, _, 0, Nat.zero_le _, rfl, rfl, HST.out⟩
    case round =>
      obtain ⟨A, c, k, hk, rfl, rfl, hci⟩ := hrel
      have HCI := Lib.hid hci
      clear hci HST
      by_cases hlt : k < n
      · obtain ⟨x, hx⟩ : ∃ x, cs[k]? = some x := ⟨_, List.getElem?_eq_getElem (by rw [HCN.out]; exact hlt)⟩
        have HX := Lib.hid hx
        have hcell := HCI.out.keys k x hx
        obtain ⟨i, hi1, hi2⟩ := HMM.out x (List.mem_of_getElem? hx)
        have HXP := Lib.hid (HPG.out x (List.mem_of_getElem? hx))
        have hi3 : i ≤ 1000 := by have := pgs_lt hi2; have := HGL.out; omega
        have hlook := HLK.out wr HCI.out.bel i hi3
        rw [hi2] at hlook
        simp only [Option.getD_some] at hlook
        rw [hi1] at hcell
        have HXE : Hid (x = ⟨(i : Int), x.page⟩) := Lib.hid (by cases x; simp at hi1 ⊢; exact hi1)
        have c5 := HC5.out wr HCI.out.bel
        obtain ⟨i0, hi0, hz0, hs0, hb0⟩ := info_parts info_chg
        have HI0 := Lib.hid hi0
        have HZ0 := Lib.hid hz0
        have HS0 := Lib.hid hs0
        have HB0 := Lib.hid hb0
        clear hx hi1 hi2 hi3 hi0 hz0 hs0 hb0
        have hlt' : (k : Int) < (n : Int) := by omega
        go_wp2_with (first
          | (with_reducible refine wpList_buildChg (i : Int) x.page HXP.out rfl (.tmp 24) (.tmp 30) rfl (some 31) rfl rfl rfl ?_)
          | (with_reducible refine wpList_buildChg1 ⟨(i : Int), x.page⟩ HXP.out (.tmp 31) rfl rfl rfl ?_)
          | (at_builtin; go_must (refine wpList_append_own_at _ rfl (.tmp 23) (.tmp 32) 67 rfl w.heap.size 85 i0 _ 65 72 Try.underlying67 HI0.out HZ0.out HS0.out HB0.out chgZero_size (by omega) _ k _ rfl (HCI.out.row.alloc _) ⟨wr.heap.size, 0, none⟩ 1 1 (chgVals ⟨(i : Int), x.page⟩) rfl (chgVals_length HXP.out) (cell_new _ _ _) (chgVals_one _) (by unfold maxLen; omega) (by omega) (by have := HCI.out.bel.size; simp; omega) ?_); intro v' w5 hown' hgrow hnil hloc; obtain ⟨A', c', rfl⟩ := owns_slice hown'; have HNX := Lib.hid (HCI.out.next HX.out (by rw [HXE.out]; exact hown') (by rw [HXE.out]; exact hgrow) (by rw [HXE.out]; exact hloc)); clear hown' hgrow hnil hloc))
        go_roundw
        case rel => exact ⟨_, _, k + 1, by omega, rfl, by go_num, HNX.out⟩
        case measure => simp [intOf]; omega
      · obtain rfl : k = n := by omega
        have HCH : Hid (ChAt wr A b.all cs) := Lib.hid (by
          have hr := HCI.out.row
          rw [List.take_of_length_le (by rw [HCN.out]; exact Nat.le_refl _)] at hr
          exact owns_chAt hr HPG.out HCN.out.symm HLT.out)
        have HBE := Lib.hid HCI.out.bel
        go_wp2_with fail
        go_ret
        exact ⟨_, _, rfl, HCH.out, HBE.out⟩
end Go.Proofs.Yteedglcbodpcdaa
