/-
  The library's sort and its iterators over a map's keys, laid at this program: each field is a fact of the program.
-/
import Derived.Shelf.SlIterI.Nil
import Derived.Shelf.SortM.Plain
import Derived.Shelf.SortM.SortNone
import Derived.Test.YtppbiohjhnoagaaGreatMsa
namespace Go.Proofs.YtppbiohjhnoagaaGreat
open Go.Shelf
def keysA_ren : Go.Shelf.Ren := ⟨fun | 7 => 61 | 10 => 82 | n => n, fun | 23 => 65 | 26 => 3 | 3 => 38 | 28 => 112 | 0 => 0 | 27 => 111 | 33 => 90 | 4 => 4 | n => n, fun | n => n⟩
theorem keysA : Go.Proofs.SlLaysZI.n7 Tryz.prog keysA_ren := {
  mixed := by kernel_rfl
  f7 := ⟨Tryz.f61.name, by decide, Tryz.func61.trans (congrArg some (by kernel_rfl))⟩
  f10 := ⟨Tryz.f82.name, by decide, Tryz.func82.trans (congrArg some (by kernel_rfl))⟩
  t0 := Tryz.underlying0
  a0 := Tryz.isAgg0
  z0 := Tryz.sizeOf0
  v0 := Tryz.zeroValue0
  t4 := Tryz.underlying4
  a4 := Tryz.isAgg4
  z4 := Tryz.sizeOf4
  v4 := Tryz.zeroValue4
  t23 := Tryz.underlying65
  a23 := Tryz.isAgg65
  z23 := Tryz.sizeOf65
  v23 := Tryz.zeroValue65
  t26 := Tryz.underlying3
  a26 := Tryz.isAgg3
  z26 := Tryz.sizeOf3
  v26 := Tryz.zeroValue3
  t27 := Tryz.underlying111
  a27 := Tryz.isAgg111
  z27 := Tryz.sizeOf111
  v27 := Tryz.zeroValue111
  t28 := Tryz.underlying112
  a28 := Tryz.isAgg112
  z28 := Tryz.sizeOf112
  v28 := Tryz.zeroValue112
  t33 := Tryz.underlying90
  a33 := Tryz.isAgg90
  z33 := Tryz.sizeOf90
  v33 := Tryz.zeroValue90 }
def sortedA_ren : Go.Shelf.Ren := ⟨fun | 6 => 60 | 8 => 80 | 9 => 81 | 11 => 97 | 13 => 99 | 12 => 98 | 23 => 112 | 24 => 113 | 14 => 103 | 15 => 104 | 16 => 105 | 17 => 106 | 18 => 107 | 19 => 108 | 20 => 109 | 21 => 110 | 22 => 111 | 25 => 115 | 26 => 116 | 27 => 117 | 28 => 118 | 29 => 119 | 30 => 120 | 31 => 121 | n => n, fun | 26 => 3 | 28 => 112 | 24 => 109 | 0 => 0 | 3 => 3 | 37 => 147 | 48 => 97 | 50 => 148 | 4 => 4 | 40 => 152 | 39 => 151 | 45 => 156 | 5 => 5 | 9 => 9 | 51 => 161 | 55 => 165 | 57 => 167 | 58 => 168 | 33 => 90 | n => n, fun | n => n⟩
theorem sortedA : Go.Proofs.SlLaysZI.n6 Tryz.prog sortedA_ren := {
  mixed := by kernel_rfl
  f6 := ⟨Tryz.f60.name, by decide, Tryz.func60.trans (congrArg some (by kernel_rfl))⟩
  f8 := ⟨Tryz.f80.name, by decide, Tryz.func80.trans (congrArg some (by kernel_rfl))⟩
  f11 := ⟨Tryz.f97.name, by decide, Tryz.func97.trans (congrArg some (by kernel_rfl))⟩
  t0 := Tryz.underlying0
  a0 := Tryz.isAgg0
  z0 := Tryz.sizeOf0
  v0 := Tryz.zeroValue0
  t24 := Tryz.underlying109
  a24 := Tryz.isAgg109
  z24 := Tryz.sizeOf109
  v24 := Tryz.zeroValue109
  t26 := Tryz.underlying3
  a26 := Tryz.isAgg3
  z26 := Tryz.sizeOf3
  v26 := Tryz.zeroValue3
  t28 := Tryz.underlying112
  a28 := Tryz.isAgg112
  z28 := Tryz.sizeOf112
  v28 := Tryz.zeroValue112
  i26 := by kernel_rfl }
def sortA_ren : Go.Shelf.Ren := ⟨fun | 5 => 81 | 8 => 99 | 7 => 98 | 19 => 112 | 20 => 113 | 10 => 103 | 11 => 104 | 12 => 105 | 13 => 106 | 14 => 107 | 15 => 108 | 16 => 109 | 17 => 110 | 18 => 111 | 30 => 115 | 31 => 116 | 32 => 117 | 33 => 118 | 34 => 119 | 35 => 120 | 40 => 121 | n => n, fun | 23 => 109 | 25 => 3 | 3 => 3 | 32 => 147 | 22 => 109 | 0 => 0 | 44 => 97 | 46 => 148 | 4 => 4 | 36 => 152 | 35 => 151 | 41 => 156 | 5 => 5 | 9 => 9 | 53 => 161 | 57 => 165 | 63 => 167 | 64 => 168 | n => n, fun | n => n⟩
theorem sortA : Go.Proofs.SlLaysM.n5 Tryz.prog sortA_ren := {
  mixed := by kernel_rfl
  f5 := ⟨Tryz.f81.name, by decide, Tryz.func81.trans (congrArg some (by kernel_rfl))⟩
  f7 := ⟨Tryz.f98.name, by decide, Tryz.func98.trans (congrArg some (by kernel_rfl))⟩
  f8 := Tryz.func99.trans (congrArg some (by kernel_rfl))
  f10 := ⟨Tryz.f103.name, by decide, Tryz.func103.trans (congrArg some (by kernel_rfl))⟩
  f11 := ⟨Tryz.f104.name, by decide, Tryz.func104.trans (congrArg some (by kernel_rfl))⟩
  f12 := ⟨Tryz.f105.name, by decide, Tryz.func105.trans (congrArg some (by kernel_rfl))⟩
  f13 := ⟨Tryz.f106.name, by decide, Tryz.func106.trans (congrArg some (by kernel_rfl))⟩
  f14 := ⟨Tryz.f107.name, by decide, Tryz.func107.trans (congrArg some (by kernel_rfl))⟩
  f15 := ⟨Tryz.f108.name, by decide, Tryz.func108.trans (congrArg some (by kernel_rfl))⟩
  f16 := ⟨Tryz.f109.name, by decide, Tryz.func109.trans (congrArg some (by kernel_rfl))⟩
  f17 := ⟨Tryz.f110.name, by decide, Tryz.func110.trans (congrArg some (by kernel_rfl))⟩
  f18 := ⟨Tryz.f111.name, by decide, Tryz.func111.trans (congrArg some (by kernel_rfl))⟩
  f19 := Tryz.func112.trans (congrArg some (by kernel_rfl))
  f20 := Tryz.func113.trans (congrArg some (by kernel_rfl))
  f30 := ⟨Tryz.f115.name, by decide, Tryz.func115.trans (congrArg some (by kernel_rfl))⟩
  f31 := Tryz.func116.trans (congrArg some (by kernel_rfl))
  f32 := Tryz.func117.trans (congrArg some (by kernel_rfl))
  f33 := ⟨Tryz.f118.name, by decide, Tryz.func118.trans (congrArg some (by kernel_rfl))⟩
  f34 := ⟨Tryz.f119.name, by decide, Tryz.func119.trans (congrArg some (by kernel_rfl))⟩
  f35 := ⟨Tryz.f120.name, by decide, Tryz.func120.trans (congrArg some (by kernel_rfl))⟩
  f40 := ⟨Tryz.f121.name, by decide, Tryz.func121.trans (congrArg some (by kernel_rfl))⟩
  t0 := Tryz.underlying0
  a0 := Tryz.isAgg0
  z0 := Tryz.sizeOf0
  v0 := Tryz.zeroValue0
  t3 := Tryz.underlying3
  a3 := Tryz.isAgg3
  z3 := Tryz.sizeOf3
  v3 := Tryz.zeroValue3
  t4 := Tryz.underlying4
  a4 := Tryz.isAgg4
  z4 := Tryz.sizeOf4
  v4 := Tryz.zeroValue4
  t5 := Tryz.underlying5
  a5 := Tryz.isAgg5
  z5 := Tryz.sizeOf5
  v5 := Tryz.zeroValue5
  t9 := Tryz.underlying9
  a9 := Tryz.isAgg9
  z9 := Tryz.sizeOf9
  v9 := Tryz.zeroValue9
  t22 := Tryz.underlying109
  a22 := Tryz.isAgg109
  z22 := Tryz.sizeOf109
  v22 := Tryz.zeroValue109
  t23 := Tryz.underlying109
  a23 := Tryz.isAgg109
  z23 := Tryz.sizeOf109
  v23 := Tryz.zeroValue109
  t25 := Tryz.underlying3
  a25 := Tryz.isAgg3
  z25 := Tryz.sizeOf3
  v25 := Tryz.zeroValue3
  t32 := Tryz.underlying147
  a32 := Tryz.isAgg147
  z32 := Tryz.sizeOf147
  v32 := Tryz.zeroValue147
  t35 := Tryz.underlying151
  a35 := Tryz.isAgg151
  z35 := Tryz.sizeOf151
  v35 := Tryz.zeroValue151
  t36 := Tryz.underlying152
  a36 := Tryz.isAgg152
  z36 := Tryz.sizeOf152
  v36 := Tryz.zeroValue152
  t41 := Tryz.underlying156
  a41 := Tryz.isAgg156
  z41 := Tryz.sizeOf156
  v41 := Tryz.zeroValue156
  t44 := Tryz.underlying97
  a44 := Tryz.isAgg97
  z44 := Tryz.sizeOf97
  v44 := Tryz.zeroValue97
  t46 := Tryz.underlying148
  a46 := Tryz.isAgg148
  z46 := Tryz.sizeOf148
  v46 := Tryz.zeroValue148
  t53 := Tryz.underlying161
  a53 := Tryz.isAgg161
  z53 := Tryz.sizeOf161
  v53 := Tryz.zeroValue161
  t57 := Tryz.underlying165
  a57 := Tryz.isAgg165
  z57 := Tryz.sizeOf165
  v57 := Tryz.zeroValue165
  t63 := Tryz.underlying167
  a63 := Tryz.isAgg167
  z63 := Tryz.sizeOf167
  v63 := Tryz.zeroValue167
  t64 := Tryz.underlying168
  a64 := Tryz.isAgg168
  z64 := Tryz.sizeOf168
  v64 := Tryz.zeroValue168 }
end Go.Proofs.YtppbiohjhnoagaaGreat

/-
  The contracts of maps.Copy and of a store's together: loops over a map of pages.
-/
namespace Go.Proofs.YtppbiohjhnoagaaGreat
open Go.RowKit Go.Maps
open Dk (zeros zeros_length)
open Jn (Chg)

/-- the group while some of the step's pages are still to come -/
def mixP (g t : Pgs) (left : Nat → Bool) : Pgs := (List.range g.length).map fun i => if left i then g.getD i none else (t.getD i none).or (g.getD i none)
theorem mixP_length (g t : Pgs) (left : Nat → Bool) : (mixP g t left).length = g.length := by unfold mixP; simp
theorem mixP_at (g t : Pgs) (left : Nat → Bool) (i : Nat) (hi : i < g.length) : (mixP g t left).getD i none = if left i then g.getD i none else (t.getD i none).or (g.getD i none) := by
  unfold mixP
  rw [List.getD_eq_getElem?_getD, List.getElem?_map, List.getElem?_range hi]; rfl
theorem mixP_start (g t : Pgs) (left : Nat → Bool) (h : ∀ i, i < g.length → left i = false → t.getD i none = none) : mixP g t left = g := by
  refine pgs_ext (mixP_length _ _ _) (fun i hi => ?_)
  rw [mixP_length] at hi
  rw [mixP_at _ _ _ _ hi]
  cases e : left i with
  | true => rfl
  | false => rw [h i hi e]; rfl
theorem mixP_end (g t : Pgs) (left : Nat → Bool) (h : ∀ i, left i = false) : mixP g t left = joinP g t := by
  unfold mixP joinP
  apply List.map_congr_left
  intro i _
  rw [h i]; rfl
theorem mixP_step (g t : Pgs) (left left' : Nat → Bool) (i : Nat) (p : List UInt8) (hi : i < g.length) (hp : t.getD i none = some p) (h1 : left' i = false) (h2 : ∀ j, j ≠ i → left' j = left j) : (mixP g t left).set i (some p) = mixP g t left' := by
  refine pgs_ext (by rw [List.length_set, mixP_length, mixP_length]) (fun j hj => ?_)
  rw [List.length_set, mixP_length] at hj
  rw [pgs_set_at _ _ _ _ (by rw [mixP_length]; exact hi), mixP_at _ _ left' _ hj]
  by_cases e : i = j
  · subst e
    rw [if_pos rfl, h1, hp]; rfl
  · rw [if_neg e, mixP_at _ _ left _ hj, h2 j (fun q => e q.symm)]
/-- what has come: one of the pages -/
theorem cameP {c : Pgs} {D : DataW (List UInt8)} (hD : MapIs D c) {x : Int} {p : List UInt8} {kl : Lit} {y : DataW (List UInt8) × List MemPlace} (hkey : keyOf Tryz.prog 3 (.int .i64 x) = some kl) (hl : Maps.has D kl = true) (hv : pageR (pageV p) = some y) (hat : ∀ zd, D.atKey kl zd = y.1) :
    ∃ i : Nat, x = (i : Int) ∧ kl = .int .i64 (i : Int) ∧ i < c.length ∧ c.getD i none = some p ∧ p.length = 64 := by
  obtain ⟨x', ex, rfl, _⟩ := Maps.keyOf_int_inv Tryz.underlying3 hkey
  injection ex with _ ex
  subst ex
  rw [hD.has] at hl
  have h0 : 0 ≤ x ∧ (c.getD x.toNat none).isSome = true := by simpa using hl
  obtain ⟨i, rfl⟩ := Int.eq_ofNat_of_zero_le h0.1
  rw [Int.toNat_natCast] at h0
  obtain ⟨q, hq⟩ := Option.isSome_iff_exists.1 h0.2
  obtain ⟨q', hq', e1, e2⟩ := pageR_inv hv
  have hcq := pageV_inj e1
  have := hD.held i q hq .nil
  rw [hat, e2] at this
  injection this with this
  exact ⟨i, rfl, rfl, pgs_lt hq, by rw [hq, hcq, this], by rw [hcq]; exact hq'⟩
theorem start_left {g t : Pgs} {D : DataW (List UInt8)} (hD : MapIs D t) : mixP g t (fun i => Maps.has D (.int .i64 (i : Int))) = g := mixP_start _ _ _ (fun i _ e => by
  rw [hD.has, Int.toNat_natCast] at e
  cases hc : t.getD i none with
  | none => rfl
  | some p => rw [hc] at e; simp at e)
theorem step_left {g t : Pgs} {left : Lit → Bool} {i : Nat} {p : List UInt8} (hi : i < g.length) (hp : t.getD i none = some p) : (mixP g t (fun i => left (.int .i64 (i : Int)))).set i (some p) = mixP g t (fun j => left (.int .i64 (j : Int)) && !(Lit.int .i64 (j : Int)).sameKey (.int .i64 (i : Int))) :=
  mixP_step _ _ _ _ i p hi hp (by simp [Lit.sameKey]) (fun j hj => by
    have hne : (j : Int) ≠ (i : Int) := by omega
    simp [Lit.sameKey, hne])

/-! ### maps.Copy -/
structure CopyAt (w0 : World) (g t r : Nat) (cg ct : Pgs) (D : DataW (List UInt8)) (left : Lit → Bool) (cnt : Nat) (w : World) : Prop where
  rg : w.ranges Tryz.prog 3 pageR t r (Maps.size D) D left cnt
  map : MapAt w g (mixP cg ct (fun i => left (.int .i64 (i : Int))))
  only : Only [g] w0 w
  sub : ∀ kl, left kl = true → Maps.has D kl = true
theorem CopyAt.next {w0 w w1 w2 : World} {g t r : Nat} {cg ct : Pgs} {D : DataW (List UInt8)} {left left' : Lit → Bool} {cnt cnt' : Nat} (h : CopyAt w0 g t r cg ct D left cnt w) (hr : w0.heap.size ≤ r) (hg : g < w0.heap.size)
    (hrg : w1.ranges Tryz.prog 3 pageR t r (Maps.size D) D left' cnt') (hgr : w.grownBy w1 (some r)) (hb : Below w1.heap.size w1 w2) :
    w2.ranges Tryz.prog 3 pageR t r (Maps.size D) D left' cnt' ∧ MapAt w2 g (mixP cg ct (fun i => left (.int .i64 (i : Int)))) ∧ Only [g] w0 w2 := by
  refine ⟨hrg.kept (row := none) ⟨hb.os, hb.tape, hb.output, hb.size, fun k hk _ => hb.block k hk⟩ (by simp) (by simp), ?_, (h.only.newer (Only.grown hgr (by simp)) hr).trans (Only.below hb)⟩
  have hlt : g < w.heap.size := Nat.lt_of_lt_of_le hg h.only.size
  exact (h.map.block (hgr.block g hlt (fun e => by injection e with e; omega))).block (hb.block g (Nat.lt_of_lt_of_le hlt hgr.size))
theorem copy_step {w0 w2 w3 : World} {g t r : Nat} {cg ct : Pgs} {D : DataW (List UInt8)} {left : Lit → Bool} {cnt' i : Nat} {p : List UInt8} (hgt : g ≠ t) (hr : w0.heap.size ≤ r) (hg : g < w0.heap.size) (hsub : ∀ kl, left kl = true → Maps.has D kl = true)
    (hrg : w2.ranges Tryz.prog 3 pageR t r (Maps.size D) D (fun z => left z && !z.sameKey (.int .i64 (i : Int))) cnt') (ho : Only [g] w0 w2) (hi : i < cg.length) (hp : ct.getD i none = some p)
    (hm : MapAt w3 g ((mixP cg ct (fun i => left (.int .i64 (i : Int)))).set i (some p))) (ht : w2.mapTurned w3 g) : CopyAt w0 g t r cg ct D (fun z => left z && !z.sameKey (.int .i64 (i : Int))) cnt' w3 where
  rg := hrg.kept (row := some g) ht.grown (fun e => by injection e with e; exact hgt e.symm) (fun e => by injection e with e; omega)
  map := by rw [← step_left hi hp]; exact hm
  only := ho.trans (Only.grown ht.grown (by simp))
  sub := fun kl e => hsub kl (by simp at e; exact e.1)
set_option maxRecDepth 100000 in
set_option maxHeartbeats 2000000 in
theorem copy_any {w : World} {g t : Nat} {cg ct : Pgs} (hg : MapAt w g cg) (ht : MapAt w t ct) (hgt : g ≠ t) (hl : ct.length = cg.length) (hl2 : cg.length ≤ 1000) :
    Calls Tryz.prog 38 #[.map (some g), .map (some t)] w fun e w' => e = .returned (.tuple #[]) ∧ MapAt w' g (joinP cg ct) ∧ Only [g] w w' := by
  obtain ⟨D, hown, hD⟩ := ht
  have HD := Lib.hid hD
  have HG := Lib.hid hg
  have HGL := Lib.hid hg.lt
  have HGT := Lib.hid hgt
  have HL := Lib.hid hl
  have HL2 := Lib.hid hl2
  clear hD hg hgt hl hl2
  go_enter Tryz.func38, Tryz.ntmps38
  go_wp2_with (at_range; refine wpList_range_own _ rfl _ 65 rfl 3 38 keyLaw Tryz.underlying65 pageR t (Maps.size D) D rfl hown ?_; intro w0 hrg0 hg0 hs0)
  go_frame
  have HST : Hid (CopyAt w g t w.heap.size cg ct D (Maps.has D) (Maps.size D) w0) := Lib.hid ⟨hrg0, by rw [start_left HD.out]; exact HG.out.block (hg0.block g HGL.out (by simp)), Only.grownNone hg0, fun _ h => h⟩
  clear hrg0 hg0 hs0 hown
  go_loopw [8] (fun _ wr => ∃ (left : Lit → Bool) (cnt : Nat), CopyAt w g t w.heap.size cg ct D left cnt wr) (fun _ wr => wr.rangeLeft t w.heap.size)
  case atStart => exact ⟨_, _, HST.out⟩
  case round =>
    obtain ⟨left, cnt, hfl⟩ := hrel
    have HFL := Lib.hid hfl
    have hrg := hfl.rg
    clear hfl HST
    go_wp2_with (at_next; refine wpList_next_ranges _ rfl _ rfl 3 keyLaw pageR (Value.int .i64) pageV invK invV t w.heap.size (Maps.size D) D left cnt rfl hrg ?_ ?_)
    · intro _ hl0
      have HL0 := Lib.hid hl0
      clear hl0
      go_wp2
      go_end0
      refine ⟨rfl, ?_, HFL.out.only⟩
      rw [← mixP_end cg ct (fun i => left (.int .i64 (i : Int))) (fun i => HL0.out _)]
      exact HFL.out.map
    · intro x c kl y1 y2 w2 cnt2 hkey hlx hv hat hrg2 hlt hg2 hs2 hen
      obtain ⟨i, rfl, rfl, hi, hci, hcl⟩ := cameP (y := (y1, y2)) HD.out hkey (HFL.out.sub _ hlx) hv hat
      have HI : Hid (i < cg.length) := Lib.hid (by rw [← HL.out]; exact hi)
      have HCI := Lib.hid hci
      have HCL := Lib.hid hcl
      have HNX := Lib.hid (fun (W : World) (hb : Below w2.heap.size w2 W) => HFL.out.next (Nat.le_refl _) HGL.out hrg2 hg2 hb)
      have HLT := Lib.hid hlt
      clear hkey hlx hv hat hci hcl hi hs2 hlt hg2
      go_wp2_with (first
        | ((with_reducible refine wpList_store_new rfl (.tmp 5) (.tmp 12) rfl rfl ?_ ?_ HCL.out ?_); (exact rfl); (exact rfl); intro W2 hP hB2 hz2; have HQ := Lib.hid (HNX.out W2 hB2); clear hen hB2 hz2)
        | (with_reducible refine wpList_load_page hP rfl (.tmp 5) rfl rfl ?_)
        | (at_mapUpdate; go_must (refine wpList_map_store HQ.out.2.1 i (by rw [mixP_length]; exact HI.out) (by rw [mixP_length]; exact HL2.out) HCL.out rfl (.tmp 13) (.tmp 14) (.tmp 15) rfl rfl rfl rfl ?_); intro W3 hm3 ht3; have HC3 := Lib.hid (copy_step HGT.out (Nat.le_refl _) HGL.out HFL.out.sub HQ.out.1 HQ.out.2.2 HI.out HCI.out hm3 ht3); clear hm3 ht3))
      go_frame
      go_wp2
      go_roundw
      case rel => exact ⟨_, _, HC3.out⟩
      case measure => rw [HC3.out.rg.left_eq, hrg.left_eq]; exact HLT.out

/-! ### together -/
structure TogAt (w0 : World) (t r : Nat) (D : DataW (List UInt8)) (left : Lit → Bool) (cnt : Nat) (w : World) : Prop where
  rg : w.ranges Tryz.prog 3 pageR t r (Maps.size D) D left cnt
  bel : Below w0.heap.size w0 w
  sub : ∀ kl, left kl = true → Maps.has D kl = true
theorem TogAt.next {w0 w w1 w2 : World} {t r : Nat} {D : DataW (List UInt8)} {left : Lit → Bool} {cnt cnt' i : Nat} (h : TogAt w0 t r D left cnt w) (hr : w0.heap.size ≤ r)
    (hrg : w1.ranges Tryz.prog 3 pageR t r (Maps.size D) D (fun z => left z && !z.sameKey (.int .i64 (i : Int))) cnt') (hgr : w.grownBy w1 (some r)) (hb : Below w1.heap.size w1 w2) : TogAt w0 t r D (fun z => left z && !z.sameKey (.int .i64 (i : Int))) cnt' w2 where
  rg := hrg.kept (row := none) ⟨hb.os, hb.tape, hb.output, hb.size, fun k hk _ => hb.block k hk⟩ (by simp) (by simp)
  bel := (h.bel.trans ((Only.grown (l := [r]) hgr (by simp)).toBelow h.bel.size (fun k hk => by rw [List.mem_singleton] at hk; omega))).trans (hb.mono (Nat.le_trans h.bel.size hgr.size))
  sub := fun kl e => h.sub kl (by simp at e; exact e.1)
theorem cnt_mix {g t : Pgs} {left : Lit → Bool} {i : Nat} {p : List UInt8} (hi : i < g.length) (hp : t.getD i none = some p) (hl : left (.int .i64 (i : Int)) = true) :
    cntO (mixP g t (fun j => left (.int .i64 (j : Int)) && !(Lit.int .i64 (j : Int)).sameKey (.int .i64 (i : Int)))) = if (g.getD i none).isSome then cntO (mixP g t (fun i => left (.int .i64 (i : Int)))) else cntO (mixP g t (fun i => left (.int .i64 (i : Int)))) + 1 := by
  rw [← step_left hi hp, cntO_set _ _ _ (by rw [mixP_length]; exact hi), mixP_at _ _ _ _ hi, hl]; rfl
theorem cntO_le (c : Pgs) : cntO c ≤ c.length := List.countP_le_length
set_option maxRecDepth 100000 in
set_option maxHeartbeats 2000000 in
theorem stog_any {w : World} {b : Blk} {s : Sto} (h : StoreAt w b s) : Calls Tryz.prog 37 #[.pointer (some ⟨b.s, 0, none⟩)] w fun e w' => e = .returned (.int .i64 (stog s : Int)) ∧ Below w.heap.size w w' := by
  have HS := Lib.hid h
  have c4 := h.c4
  have c5 := h.c5
  have hlen := h.group.len
  obtain ⟨D, hown, hD⟩ := h.step
  have HD := Lib.hid hD
  have HL : Hid (s.step.length = s.group.length) := Lib.hid (by rw [h.ok.slen, h.ok.glen])
  have HN : Hid (s.group.length ≤ 1000) := Lib.hid (by rw [h.ok.glen]; have := h.disk.ok.small; omega)
  have HST0 : Hid (cntO (mixP s.group s.step (fun i => Maps.has D (.int .i64 (i : Int)))) = List.countP (fun x => x.isSome) s.group) := Lib.hid (by rw [start_left HD.out]; rfl)
  clear h hD
  generalize List.countP (fun x => x.isSome) s.group = n0 at hlen HST0
  go_enter Tryz.func37, Tryz.ntmps37
  go_wp2_with (at_range; refine wpList_range_own _ rfl _ 65 rfl 3 38 keyLaw Tryz.underlying65 pageR b.t (Maps.size D) D rfl hown ?_; intro w0 hrg0 hg0 hs0)
  go_frame
  have HST : Hid (TogAt w b.t w.heap.size D (Maps.has D) (Maps.size D) w0) := Lib.hid ⟨hrg0, (Only.grownNone (l := []) hg0).toBelow (Nat.le_refl _) (by simp), fun _ h => h⟩
  clear hrg0 hg0 hs0 hown hlen c4 c5
  go_loopw [3] (fun i wr => ∃ (left : Lit → Bool) (cnt : Nat), i = .int .i64 (cntO (mixP s.group s.step (fun i => left (.int .i64 (i : Int)))) : Int) ∧ TogAt w b.t w.heap.size D left cnt wr) (fun _ wr => wr.rangeLeft b.t w.heap.size)
  case atStart => exact ⟨_, _, by rw [HST0.out], HST.out⟩
  case round =>
    obtain ⟨left, cnt, rfl, hfl⟩ := hrel
    have HFL := Lib.hid hfl
    have hrg := hfl.rg
    have HW := Lib.hid (HS.out.below hfl.bel)
    clear hfl HST
    obtain ⟨N, hNN⟩ : ∃ N, cntO (mixP s.group s.step (fun i => left (.int .i64 (i : Int)))) = N := ⟨_, rfl⟩
    have HNN := Lib.hid hNN
    have hN : N ≤ 1000 := by rw [← hNN]; exact Nat.le_trans (cntO_le _) (by rw [mixP_length]; exact HN.out)
    rw [hNN]
    clear hNN
    go_wp2_with (at_next; refine wpList_next_ranges _ rfl _ rfl 3 keyLaw pageR (Value.int .i64) pageV invK invV b.t w.heap.size (Maps.size D) D left cnt rfl hrg ?_ ?_)
    · intro _ hl0
      have HL0 := Lib.hid hl0
      clear hl0
      go_wp2
      go_ret
      refine ⟨?_, HFL.out.bel⟩
      unfold stog
      rw [← mixP_end s.group s.step (fun i => left (.int .i64 (i : Int))) (fun i => HL0.out _), HNN.out]
      rfl
    · intro x c kl y1 y2 w2 cnt2 hkey hlx hv hat hrg2 hlt hg2 hs2 hen
      obtain ⟨i, rfl, rfl, hi, hci, hcl⟩ := cameP (y := (y1, y2)) HD.out hkey (HFL.out.sub _ hlx) hv hat
      have HI : Hid (i < s.group.length) := Lib.hid (by rw [← HL.out]; exact hi)
      have hi2 : i ≤ 1000 := by have := HI.out; have := HN.out; omega
      have HCM := Lib.hid (cnt_mix HI.out hci hlx)
      rw [HNN.out] at HCM
      have HNX := Lib.hid (fun (W : World) (hb : Below w2.heap.size w2 W) => HFL.out.next (Nat.le_refl _) hrg2 hg2 hb)
      have HLT := Lib.hid hlt
      have HW2 := Lib.hid (HS.out.below (HFL.out.next (Nat.le_refl _) hrg2 hg2 (Below.refl _ _)).bel)
      have c5 := HW2.out.c5
      have hlook := HW2.out.group.look i hi2
      have HGP := Lib.hid (fun p (e : s.group.getD i none = some p) => (HS.out.ok.gpg i p e).1)
      clear hkey hlx hv hat hci hcl hi hs2 hlt hg2
      cases hgi : s.group.getD i none with
      | some q =>
        rw [hgi] at hlook HCM HGP
        simp only [Option.getD_some, Option.isSome_some] at hlook HCM
        have HQ := Lib.hid (HGP.out q rfl)
        go_wp2_with (first
          | ((with_reducible refine wpList_store_new rfl (.tmp 5) (.tmp 28) rfl rfl ?_ ?_ HQ.out ?_); (exact rfl); (exact rfl); intro W2 hP hB2 hz2; have HT := Lib.hid (HNX.out W2 hB2); clear hen hB2 hz2 hlook c5))
        go_roundw
        case rel => exact ⟨_, _, by rw [HCM.out]; rfl, HT.out⟩
        case measure => rw [HT.out.rg.left_eq, hrg.left_eq]; exact HLT.out
      | none =>
        rw [hgi] at hlook HCM
        simp only [Option.getD_none, Option.isSome_none] at hlook HCM
        go_wp2_with (first
          | ((with_reducible refine wpList_store_new rfl (.tmp 5) (.tmp 28) rfl rfl ?_ ?_ zeros_length ?_); (exact rfl); (exact rfl); intro W2 hP hB2 hz2; have HT := Lib.hid (HNX.out W2 hB2); clear hen hB2 hz2 hlook c5))
        go_roundw
        case rel => exact ⟨_, _, by rw [HCM.out]; go_num, HT.out⟩
        case measure => rw [HT.out.rg.left_eq, hrg.left_eq]; exact HLT.out
end Go.Proofs.YtppbiohjhnoagaaGreat

/-
  A map's keys, sorted: the contract of slices.Sorted over maps.Keys at this program, in words of its own.
-/
namespace Go.Proofs.YtppbiohjhnoagaaGreat
open Go.RowKit Go.Maps Go.Sort Go.Shelf
open Jn (Chg)

theorem sortsA (m : Nat) : AnyZI.SortsIn Tryz.prog sortedA_ren Fence.wide m :=
  ⟨fun blk off cap ss W hH hblk hsz => callsIn_wide.2 (AnyM.slices_Sort_int sortA blk off cap ss W hH hblk hsz),
   fun p cap W => callsIn_wide.2 (AnyM.slices_Sort_int_none sortA p cap W)⟩
theorem keys_c (mb : Option Nat) (W : World) : Calls Tryz.prog 61 #[.map mb] W fun e w' => e = .returned (.func (.func 82) #[] #[.pointer (some ⟨W.heap.size, 0, none⟩)]) ∧ w' = W.alloc (.cells #[.map mb] 65) :=
  (callsIn_wide (n := 5)).1 (AnyZI.keys_in keysA Fence.wide 5 trivial rfl mb W)
set_option maxRecDepth 100000 in
theorem sorted_c {H : Type} (b nn : Nat) (D0 : DataW H) (R : Value → Option (DataW H × List MemPlace)) (w : World) (hown : w.ownsMap Tryz.prog 3 R b nn D0) (hmax : Maps.size D0 ≤ maxLen) (hbytes : Maps.size D0 * 8 ≤ 140737488355328) :
    Calls Tryz.prog 60 #[.func (.func 82) #[] #[.pointer (some ⟨w.heap.size, 0, none⟩)]] (w.alloc (.cells #[.map (some b)] 65)) fun e w' => ∃ (v : Value) (ss : List Int), e = .returned v ∧ ss.Perm (intKeys D0) ∧
      w'.ownsRow w.heap.size 3 1 v ss.length ((ss.mergeSort (fun x y => decide (x ≤ y))).map encZ) ∧ Below w.heap.size w w' := by
  refine (callsIn_wide (n := 5)).1 ?_
  have hbl := hown.lt
  have hseq : SeqGives Fence.wide 2 Tryz.prog 82 #[.pointer (some ⟨w.heap.size, 0, none⟩)] encZ (fun ss => ss.Perm (intKeys D0)) (Maps.size D0) (w.alloc (.cells #[.map (some b)] 65)) :=
    AnyZI.keys_gives (ρ := keysA_ren) { keysA with } Fence.wide _ trivial rfl (by omega) w.heap.size b nn D0 _ (by simp) (by simp) (by
      obtain ⟨es, clock, hb, Ft, hs, hD⟩ := hown
      exact ⟨es, clock, (Below.heap_alloc _ _ b hbl).trans hb, Ft, hs, hD⟩)
  have cS := AnyZI.sorted_in sortedA Fence.wide 5 trivial trivial trivial trivial rfl (by omega) (sortsA _) (enters_of Tryz.func81 (by kernel_rfl) rfl) 82 #[.pointer (some ⟨w.heap.size, 0, none⟩)] trivial (enters_of Tryz.func82 (by kernel_rfl) rfl) _ _ hmax hbytes _ hseq
  refine cS.mono ?_
  rintro e w' ⟨v, ss, rfl, hS, hrow, hnil, hb⟩
  exact ⟨v, ss, rfl, hS, ownsRow_base_a hrow (by simp), ((Below.refl _ w).alloc (Nat.le_refl _) _).trans (hb.mono (by simp))⟩
/-- the keys are the changes' numbers, rising -/
theorem keys_chgs {w : World} {b n : Nat} {D : DataW (List UInt8)} {c : Pgs} (hown : w.ownsMap Tryz.prog 3 pageR b n D) (hD : MapIs D c) {ss : List Int} (hs : ss.Perm (intKeys D)) : ss.mergeSort (fun x y => decide (x ≤ y)) = (chgs c).map (·.no) := by
  obtain ⟨es, hE, hpw, _⟩ := hown.entries keyLaw
  obtain ⟨es', hE', hko⟩ := hown.keysOf
  obtain rfl : es = es' := by rw [hE] at hE'; simpa using hE'
  subst hE
  have hp := chgs_pw c
  have hpw' : ((chgs c).map (·.no)).Pairwise (fun x y => x < y) := List.pairwise_map.2 hp
  have hk : ((chgs c).map (·.no)).Perm (intKeys (.map es)) := perm_intKeys hpw (fun p hp => by obtain ⟨v, hv⟩ := hko p hp; obtain ⟨x, _, hx, _⟩ := Maps.keyOf_i64 Tryz.underlying3 hv; exact ⟨x, hx⟩) (hpw'.imp fun h => Int.ne_of_lt h) (fun x => by
    rw [hD.has, List.mem_map]
    constructor
    · rintro ⟨y, hy, rfl⟩
      obtain ⟨k, h1, h2⟩ := chgs_mem.1 hy
      rw [h1, Int.toNat_natCast, h2]; simp
    · intro h
      have h0 : 0 ≤ x ∧ (c.getD x.toNat none).isSome = true := by simpa using h
      obtain ⟨k, rfl⟩ := Int.eq_ofNat_of_zero_le h0.1
      rw [Int.toNat_natCast] at h0
      obtain ⟨q, hq⟩ := Option.isSome_iff_exists.1 h0.2
      exact ⟨⟨(k : Int), q⟩, chgs_mem.2 ⟨k, rfl, hq⟩, rfl⟩)
  rw [show (fun x y : Int => decide (x ≤ y)) = leI from rfl, mergeSort_of_perm_i (hs.trans hk.symm)]
  exact List.mergeSort_of_pairwise (hpw'.imp fun h => by simp only [leI, decide_eq_true_eq]; omega)
theorem sorted_chgs {w : World} {b : Nat} {c : Pgs} (h : MapAt w b c) (hc : c.length ≤ 1000) :
    Calls Tryz.prog 60 #[.func (.func 82) #[] #[.pointer (some ⟨w.heap.size, 0, none⟩)]] (w.alloc (.cells #[.map (some b)] 65)) fun e w' => ∃ v : Value, e = .returned v ∧
      w'.ownsRow w.heap.size 3 1 v (cntO c) ((chgs c).map fun x => Value.int .i64 x.no) ∧ Below w.heap.size w w' := by
  obtain ⟨D, hown, hD⟩ := h
  have hsz : Maps.size D ≤ 1000 := by rw [hD.size]; exact Nat.le_trans List.countP_le_length hc
  refine (sorted_c b _ D pageR w hown (by unfold maxLen; omega) (by omega)).mono ?_
  rintro e w' ⟨v, ss, rfl, hS, hrow, hb⟩
  have hk := keys_chgs hown hD hS
  have hl : ss.length = cntO c := by
    have := congrArg List.length hk
    rw [List.length_mergeSort, List.length_map, chgs_length] at this
    exact this
  rw [hk, hl, List.map_map] at hrow
  exact ⟨v, rfl, hrow, hb⟩
end Go.Proofs.YtppbiohjhnoagaaGreat

/-
  The contract of a store's changes: the group's pages, rising.
-/
namespace Go.Proofs.YtppbiohjhnoagaaGreat
open Go.RowKit Go.Maps
open Dk (zeros zeros_length)
open Jn (Chg)

theorem wpList_buildG {ops : Array Oper} {rest : List Oper} {o : Oper} {a : Act} {w : World} {Q : Exit → Act → World → Prop} (t : TypeId) (parts : Array (Nat × Operand)) (cells : Array Value) (d : Option Tmp) (ho : o.op = .build t parts) (hd : o.dst = d) (hw : Region.wanted o (yielded ops a.tmps) = true) (hf : Tryz.prog.built t (parts.map fun (i, x) => (i, a.eval x)).toList = some cells)
    (h : wpList Tryz.prog ops Q rest (a.put d (.agg cells)) w) : wpList Tryz.prog ops Q (o :: rest) a w :=
  BigFrame.wpList_want hw fun _ hK => wp_build t parts ho (by rw [hf]; rfl) (by
    rw [hf]
    subst hd
    exact hK _ _ h)
theorem chg_type : ∃ i z, Tryz.prog.info? 114 = some i ∧ i.zero = some z ∧ i.size = 65 := by
  obtain ⟨i, hi, hz, hs, _⟩ := info_parts info_chg
  exact ⟨i, _, hi, hz, hs⟩
theorem run_buildChg1 (w : World) (c : Chg) (hp : c.page.length = 64) : (Instr.buildSlice 86 1 #[(0, chgV c)]).run Tryz.prog w = .ok (.slice (some ⟨w.heap.size, 0, none⟩) 1 1) (w.alloc (.cells (chgVals c).toArray 114)) := by
  obtain ⟨i, z, hi, hz, hs⟩ := chg_type
  refine run_buildSlice w 86 114 1 #[(0, chgV c)] _ i z Tryz.underlying86 hi hz (by rw [hs]; omega) (by rw [hs]; omega) ?_
  rw [hs]
  have h := Great.fill_whole (s := 65) (by omega) [chgV c] ((Array.range (1 * 65)).map (z.cells[· % z.cells.size]!)) (fun v hv => by
    rw [List.mem_singleton] at hv
    rw [hv]
    show (chgVals c).toArray.size = 65
    rw [List.size_toArray, chgVals_length hp]) (by simp)
  refine h.trans ?_
  simp [chgV, Value.cells]
theorem wpList_buildChg1 {ops : Array Oper} {rest : List Oper} {o : Oper} {a : Act} {w : World} {Q : Exit → Act → World → Prop} (c : Chg) (hp : c.page.length = 64) (x : Operand) (ho : o.op = .buildSlice 86 1 #[(0, x)]) (hw : Region.wanted o (yielded ops a.tmps) = true) (hx : a.eval x = chgV c)
    (h : wpList Tryz.prog ops Q rest (a.put o.dst (.slice (some ⟨w.heap.size, 0, none⟩) 1 1)) (w.alloc (.cells (chgVals c).toArray 114))) : wpList Tryz.prog ops Q (o :: rest) a w :=
  BigFrame.wpList_want hw fun _ hK => by
    have hr := run_buildChg1 w c hp
    unfold Oper.wp execOp
    simp only [ho, List.map_toArray, List.map_cons, List.map_nil, hx, Sem.run_bind, hr, Result.andThen_ok]
    exact hK _ _ h

theorem run_make_cap (w : World) (n : Nat) (hn : n ≤ 1000) : (Instr.makeSlice 86 (.int .i64 0) (.int .i64 (n : Int))).run Tryz.prog w = .ok (.slice (some ⟨w.heap.size, 0, none⟩) 0 n) (w.alloc (.cells (zeroTab n) 114)) := by
  obtain ⟨i, hi, hz, hs, hb⟩ := info_parts info_chg
  have := run_make (P := Tryz.prog) w 86 114 i (.agg chgZero) Tryz.underlying86 hi hz .i64 .i64 0 (n : Int) (by omega) (by omega) (by rw [hb]; omega) (by omega)
  rw [hs, Int.toNat_natCast] at this
  exact this
theorem owns_made (w : World) (n : Nat) (hn : n ≤ 1000) : (w.alloc (.cells (zeroTab n) 114)).ownsRow w.heap.size 114 65 (.slice (some ⟨w.heap.size, 0, none⟩) 0 n) 0 [] :=
  World.ownsRow_made w _ n (Nat.le_refl _) (by unfold maxLen; omega) (zeroTab_size n)
theorem flat_len (xs : List Chg) (h : ∀ x ∈ xs, x.page.length = 64) : (xs.flatMap chgVals).length = xs.length * 65 := by
  induction xs with
  | nil => rfl
  | cons x r ih =>
    rw [List.flatMap_cons, List.length_append, ih (fun y hy => h y (by simp [hy])), chgVals_length (h x (by simp)), List.length_cons]; omega
theorem flat_at (xs : List Chg) (h : ∀ x ∈ xs, x.page.length = 64) : ∀ (i : Nat) (x : Chg) (j : Nat) (v : Value), xs[i]? = some x → (chgVals x)[j]? = some v → (xs.flatMap chgVals)[i * 65 + j]? = some v := by
  induction xs with
  | nil => intro i x j v hx; simp at hx
  | cons y r ih =>
    intro i x j v hx hv
    have hy := chgVals_length (h y (by simp))
    rw [List.flatMap_cons]
    cases i with
    | zero =>
      simp at hx
      subst hx
      have hj : j < 65 := by rw [← hy]; exact (List.getElem?_eq_some_iff.1 hv).1
      rw [Nat.zero_mul, Nat.zero_add, List.getElem?_append_left (by rw [hy]; exact hj)]
      exact hv
    | succ i =>
      rw [List.getElem?_append_right (by rw [hy]; omega), hy, show (i + 1) * 65 + j - 65 = i * 65 + j by omega]
      exact ih (fun z hz => h z (by simp [hz])) i x j v (by simpa using hx) hv
/-- a slice of changes that the call owns -/
theorem owns_chAt {w : World} {base : Nat} {A : Option Addr} {n c : Nat} {xs : List Chg} (h : w.ownsRow base 114 65 (.slice A n c) n (xs.flatMap chgVals)) (hx : ∀ x ∈ xs, x.page.length = 64) (hn : n = xs.length) {L : List Nat} (hL : ∀ k ∈ L, k < base) : ChAt w A L xs := fun h0 => by
  obtain ⟨h1, h2⟩ := h
  rcases h2 with ⟨e, e2⟩ | ⟨g, cap, cur, e, hb, hg, _, _, hsz, htk⟩
  · exfalso; omega
  · injection e with e _ _
    refine ⟨g, 0, e, (Array.getElem?_eq_some_iff.1 hg).1, fun q => by have := hL g q; omega, fun i x hxi j v hv => ?_⟩
    have hf := flat_at xs hx i x j v hxi hv
    rw [← htk] at hf
    have hlt : i * 65 + j < n * 65 := by
      have := (List.getElem?_eq_some_iff.1 hf).1
      rw [List.length_take] at this; omega
    rw [List.getElem?_take_of_lt hlt] at hf
    simp only [World.cell?, hg, Nat.zero_add]
    simp only [Option.isSome_none, Bool.false_eq_true, if_false]
    rw [← Array.getElem?_toList]
    exact hf
/-- the loop -/
structure ChI (w : World) (cs : List Chg) (g : Nat) (l : Value) (k : Nat) (W : World) : Prop where
  row : W.ownsRow w.heap.size 114 65 l k ((cs.take k).flatMap chgVals)
  keys : ∀ i x, cs[i]? = some x → W.cell? ⟨g, i, none⟩ = some (.int .i64 x.no)
  bel : Below w.heap.size w W
  ne : l.ownBlock ≠ some g
  glt : g < W.heap.size
theorem ChI.next {w : World} {cs : List Chg} {g : Nat} {l l' : Value} {k : Nat} {W W' : World} {x : Chg} (h : ChI w cs g l k W) (hx : cs[k]? = some x) (hrow : W'.ownsRow w.heap.size 114 65 l' (k + 1) ((cs.take k).flatMap chgVals ++ chgVals x))
    (hg : (W.alloc (.cells (chgVals x).toArray 114)).grownBy W' l.ownBlock) (hloc : l'.ownBlock = l.ownBlock ∨ l'.ownBlock = some (W.alloc (.cells (chgVals x).toArray 114)).heap.size) : ChI w cs g l' (k + 1) W' where
  row := by
    obtain ⟨h1, h2⟩ := List.getElem?_eq_some_iff.1 hx
    rw [List.take_succ_eq_append_getElem h1, List.flatMap_append, h2]
    simpa using hrow
  keys := fun i y hy => by
    have e1 : W'.cell? ⟨g, i, none⟩ = (W.alloc (.cells (chgVals x).toArray 114)).cell? ⟨g, i, none⟩ := World.cell?_of_block (a := ⟨g, i, none⟩) (hg.block g (by have := h.glt; simp; omega) (fun e => h.ne e.symm))
    rw [e1]
    exact (((Below.refl W.heap.size W).alloc (Nat.le_refl _) (.cells (chgVals x).toArray 114)).cell (p := ⟨g, i, none⟩) h.glt).trans (h.keys i y hy)
  bel := (h.bel.alloc h.bel.size _).grown hg (by have := h.bel.size; simp; omega) (fun j hj => (h.row.lt j hj).1)
  ne := by
    rcases hloc with e | e
    · rw [e]; exact h.ne
    · rw [e]
      have := h.glt
      intro q
      injection q with q
      simp at q
      omega
  glt := Nat.lt_of_lt_of_le h.glt (Nat.le_trans (by simp) hg.size)
theorem cell_new (w : World) (vs : List Value) (t : TypeId) : ∀ j u, vs[j]? = some u → (w.alloc (.cells vs.toArray t)).cell? ((⟨w.heap.size, 0, none⟩ : Addr).add j) = some u := fun j u hj => by
  have := (rowAt_new w vs t).range j u hj
  rw [Nat.zero_add] at this
  unfold Addr.add
  by_cases e : j = 0
  · subst e; rw [if_pos rfl]; exact this
  · rw [if_neg e, Nat.zero_add]; exact this
theorem owns_slice {w : World} {base : Nat} {e : TypeId} {size : Nat} {v : Value} {k : Nat} {xs : List Value} (h : w.ownsRow base e size v k xs) : ∃ A c, v = .slice A k c := by
  rcases h.2 with ⟨e1, e2⟩ | ⟨g, cap, cur, e1, _⟩
  · exact ⟨none, 0, by rw [e1, e2]⟩
  · exact ⟨_, _, e1⟩
set_option maxRecDepth 100000 in
set_option maxHeartbeats 2000000 in
theorem schgs_any {w : World} {b : Blk} {s : Sto} (h : StoreAt w b s) : Calls Tryz.prog 40 #[.pointer (some ⟨b.s, 0, none⟩)] w fun e w' =>
    ∃ (A : Option Addr) (c : Nat), e = .returned (.slice A (chgs s.group).length c) ∧ ChAt w' A b.all (chgs s.group) ∧ Below w.heap.size w w' := by
  have HS := Lib.hid h
  have c5 := h.c5
  have hlen := h.group.len
  have HGL : Hid (s.group.length ≤ 1000) := Lib.hid (by rw [h.ok.glen]; have := h.disk.ok.small; omega)
  have HPG := Lib.hid (chgs_pages h.ok.gpg)
  have HN : Hid (cntO s.group = (chgs s.group).length) := Lib.hid (chgs_length _).symm
  have hn : cntO s.group ≤ 1000 := Nat.le_trans (cntO_le _) HGL.out
  have HLT := Lib.hid h.lt
  have HLK := Lib.hid (fun (W : World) (hW : Below w.heap.size w W) (i : Nat) (hi : i ≤ 1000) => (h.below hW).group.look1 i hi)
  have HC5 := Lib.hid (fun (W : World) (hW : Below w.heap.size w W) => (h.below hW).c5)
  have HMM := Lib.hid (fun x (hx : x ∈ chgs s.group) => chgs_mem.1 hx)
  clear h
  have hlen' : ∀ ty, (Builtin.len_ #[65] ty #[.map (some b.g)]).run Tryz.prog w = .ok (.int .i64 ((chgs s.group).length : Nat)) w := fun ty => by
    rw [← HN.out]; exact hlen ty
  rw [HN.out] at hn
  clear hlen
  have HSR := Lib.hid (fun (W : World) (hW : Below w.heap.size w W) => sorted_chgs (HS.out.below hW).group HGL.out)
  rw [HN.out] at HSR
  generalize chgs s.group = cs at *
  obtain ⟨n, hcn⟩ : ∃ n, cs.length = n := ⟨_, rfl⟩
  have HCN := Lib.hid hcn
  rw [hcn] at hlen' hn HSR HN ⊢
  clear hcn
  have hmk := run_make_cap w n hn
  have HOW := Lib.hid (owns_made w n hn)
  have HW1 : Hid (Below w.heap.size w (w.alloc (.cells (zeroTab n) 114))) := Lib.hid ((Below.refl _ _).alloc (Nat.le_refl _) _)
  have HSZ : Hid (w.heap.size < (w.alloc (.cells (zeroTab n) 114)).heap.size) := Lib.hid (by simp)
  have c5a : (w.alloc (.cells (zeroTab n) 114)).cell? ⟨b.s, 5, none⟩ = some (.map (some b.g)) := HC5.out _ HW1.out
  go_enter Tryz.func40, Tryz.ntmps40
  go_wp2_with fail
  clear hmk hlen' c5
  generalize w.alloc (.cells (zeroTab n) 114) = w1 at HOW HW1 HSZ c5a ⊢
  refine (keys_c _ _).mono ?_
  rintro e w2 ⟨rfl, rfl⟩
  go_wp2_with fail
  refine (HSR.out w1 HW1.out).mono ?_
  rintro e w3 ⟨v, rfl, hrow, hB3⟩
  have HB3 : Hid (Below w.heap.size w w3) := Lib.hid (HW1.out.trans (hB3.mono HW1.out.size))
  have HO3 : Hid (w3.ownsRow w.heap.size 114 65 (.slice (some ⟨w.heap.size, 0, none⟩) 0 n) 0 []) := Lib.hid (HOW.out.kept (row := none) ⟨hB3.os, hB3.tape, hB3.output, hB3.size, fun k hk _ => hB3.block k hk⟩ (Or.inr (by simp [Value.ownBlock])))
  obtain ⟨hl, hh⟩ := hrow
  rcases hh with ⟨rfl, hn0⟩ | ⟨g, cap, cur, rfl, hg1, hg2, hg3, hg4, hg5, hg6⟩
  · have HNIL : Hid (cs = []) := Lib.hid (List.eq_nil_of_length_eq_zero (by rw [HCN.out]; exact hn0))
    subst hn0
    clear hl HSR HOW HW1 HSZ c5a hB3
    go_wp2_with fail
    go_loopw [3, 19] (fun l i wr => l = .slice (some ⟨w.heap.size, 0, none⟩) 0 0 ∧ i = .int .i64 0 ∧ wr = w3) (fun _ _ _ => 0)
    case atStart => exact ⟨rfl, rfl, rfl⟩
    case round =>
      obtain ⟨rfl, rfl, rfl⟩ := hrel
      go_wp2_with fail
      go_ret
      refine ⟨_, _, rfl, ?_, HB3.out⟩
      rw [HNIL.out]
      intro h0
      simp at h0
  · have HK : Hid (∀ i x, cs[i]? = some x → w3.cell? ⟨g, i, none⟩ = some (.int .i64 x.no)) := Lib.hid (fun i x hx => by
      have h1 : (cs.map fun x => Value.int .i64 x.no)[i]? = some (.int .i64 x.no) := by rw [List.getElem?_map, hx]; rfl
      rw [← hg6] at h1
      have hlt : i < n * 1 := by
        have := (List.getElem?_eq_some_iff.1 h1).1
        rw [List.length_take] at this; omega
      rw [List.getElem?_take_of_lt hlt] at h1
      simp only [World.cell?, hg2]
      simp only [Option.isSome_none, Bool.false_eq_true, if_false]
      rw [← Array.getElem?_toList]
      exact h1)
    have HGG : Hid (g < w3.heap.size) := Lib.hid (Array.getElem?_eq_some_iff.1 hg2).1
    have HST : Hid (ChI w cs g (.slice (some ⟨w.heap.size, 0, none⟩) 0 n) 0 w3) := Lib.hid ⟨HO3.out, HK.out, HB3.out, (by have := HSZ.out; simp [Value.ownBlock]; omega), HGG.out⟩
    have HCAP : Hid (cap ≤ maxLen) := Lib.hid hg4
    unfold maxLen at hg4
    clear hl hg1 hg2 hg5 hg6 HK HGG HB3 HO3 HSR HOW HW1 HSZ c5a hB3
    go_wp2_with fail
    go_loopw [3, 19] (fun l i wr => ∃ (A : Option Addr) (c k : Nat), k ≤ n ∧ l = .slice A k c ∧ i = .int .i64 k ∧ ChI w cs g l k wr) (fun _ i _ => n - (intOf i).toNat)
    case atStart => exact ⟨_, _, 0, Nat.zero_le _, rfl, rfl, HST.out⟩
    case round =>
      obtain ⟨A, c, k, hk, rfl, rfl, hci⟩ := hrel
      have HCI := Lib.hid hci
      clear hci HST
      by_cases hlt : k < n
      · obtain ⟨x, hx⟩ : ∃ x, cs[k]? = some x := ⟨_, List.getElem?_eq_getElem (by rw [HCN.out]; exact hlt)⟩
        have HX := Lib.hid hx
        have hcell := HCI.out.keys k x hx
        obtain ⟨i, hi1, hi2⟩ := HMM.out x (List.mem_of_getElem? hx)
        have HXP := Lib.hid (HPG.out x (List.mem_of_getElem? hx))
        have hi3 : i ≤ 1000 := by have := pgs_lt hi2; have := HGL.out; omega
        have hlook := HLK.out wr HCI.out.bel i hi3
        rw [hi2] at hlook
        simp only [Option.getD_some] at hlook
        rw [hi1] at hcell
        have HXE : Hid (x = ⟨(i : Int), x.page⟩) := Lib.hid (by cases x; simp at hi1 ⊢; exact hi1)
        have c5 := HC5.out wr HCI.out.bel
        obtain ⟨i0, hi0, hz0, hs0, hb0⟩ := info_parts info_chg
        have HI0 := Lib.hid hi0
        have HZ0 := Lib.hid hz0
        have HS0 := Lib.hid hs0
        have HB0 := Lib.hid hb0
        clear hx hi1 hi2 hi3 hi0 hz0 hs0 hb0
        have hlt' : (k : Int) < (n : Int) := by omega
        go_wp2_with (first
          | (with_reducible refine wpList_buildChg (i : Int) x.page HXP.out rfl (.tmp 24) (.tmp 30) rfl (some 31) rfl rfl rfl ?_)
          | (with_reducible refine wpList_buildChg1 ⟨(i : Int), x.page⟩ HXP.out (.tmp 31) rfl rfl rfl ?_)
          | (at_builtin; go_must (refine wpList_append_own_at _ rfl (.tmp 23) (.tmp 32) 86 rfl w.heap.size 114 i0 _ 65 72 Tryz.underlying86 HI0.out HZ0.out HS0.out HB0.out chgZero_size (by omega) _ k _ rfl (HCI.out.row.alloc _) ⟨wr.heap.size, 0, none⟩ 1 1 (chgVals ⟨(i : Int), x.page⟩) rfl (chgVals_length HXP.out) (cell_new _ _ _) (chgVals_one _) (by unfold maxLen; omega) (by omega) (by have := HCI.out.bel.size; simp; omega) ?_); intro v' w5 hown' hgrow hnil hloc; obtain ⟨A', c', rfl⟩ := owns_slice hown'; have HNX := Lib.hid (HCI.out.next HX.out (by rw [HXE.out]; exact hown') (by rw [HXE.out]; exact hgrow) (by rw [HXE.out]; exact hloc)); clear hown' hgrow hnil hloc))
        go_roundw
        case rel => exact ⟨_, _, k + 1, by omega, rfl, by go_num, HNX.out⟩
        case measure => simp [intOf]; omega
      · obtain rfl : k = n := by omega
        have HCH : Hid (ChAt wr A b.all cs) := Lib.hid (by
          have hr := HCI.out.row
          rw [List.take_of_length_le (by rw [HCN.out]; exact Nat.le_refl _)] at hr
          exact owns_chAt hr HPG.out HCN.out.symm HLT.out)
        have HBE := Lib.hid HCI.out.bel
        go_wp2_with fail
        go_ret
        exact ⟨_, _, rfl, HCH.out, HBE.out⟩
end Go.Proofs.YtppbiohjhnoagaaGreat
