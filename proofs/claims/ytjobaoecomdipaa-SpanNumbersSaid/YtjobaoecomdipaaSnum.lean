/-
  The contracts of span.Number, SetNumber and Numbers.
-/
import Derived.Test.YtjobaoecomdipaaSmeta
import Derived.Test.YtjobaoecomdipaaPref
import Derived.IntWalk
import Derived.OwnWalk
namespace Go.Proofs.Ytjobaoecomdipaa
open Go.RowKit

/-- a number of a page -/
def numN (p : List UInt8) (i : Int) : Int := if 0 ≤ i ∧ i < 32 then Pg.getN p (2 * i) 2 else 0
/-- a page with a number -/
def setNum (p : List UInt8) (i n : Int) : List UInt8 := if 0 ≤ i ∧ i < 32 then Pg.setN p (2 * i) 2 n else p
theorem setNum_length (p : List UInt8) (i n : Int) (h : p.length = 64) : (setNum p i n).length = 64 := by
  unfold setNum
  split
  · exact Pg.setN_length _ _ _ _ h
  · exact h
set_option maxRecDepth 100000 in
set_option maxHeartbeats 1000000 in
theorem number_any (p : List UInt8) (i : Int) (w : World) (hp : p.length = 64) :
    Calls Try.prog 17 #[pageV p, .int .i64 i] w fun e w' => e = .returned (.int .i64 (numN p i)) ∧ Below w.heap.size w w' := by
  have HP := Lib.hid (pageAt_new w p 39 hp)
  have HB : Hid (Below w.heap.size w (w.alloc (.cells (byteVals p).toArray 39))) := Lib.hid ((Below.refl _ _).alloc (Nat.le_refl _) _)
  by_cases c : 0 ≤ i ∧ i < 32
  · have HG : Hid (∀ w, Calls Try.prog 23 #[pageV p, .int .i64 (i * 2), .int .i64 2] w fun e w' => e = .returned (.int .i64 (numN p i)) ∧ Below w.heap.size w w') := Lib.hid (fun w => by
      have := get_any p (i * 2) 2 w hp (by omega) (by omega)
      unfold numN
      rw [if_pos c, Int.mul_comm 2 i]
      exact this)
    generalize numN p i = x at HG ⊢
    have HA := Lib.hid (fun w => among_yes 32 i w c.1 c.2)
    obtain ⟨c1, c2⟩ := c
    clear hp
    have w1 : IntKind.i64.wrap (i * 2) = i * 2 := IntWalk.i64_in _ (by omega)
    unfold pageV
    go_enter Try.func17, Try.ntmps17
    go_wp2_with fail
    generalize w.alloc (.cells (byteVals p).toArray 39) = w0 at HP HB ⊢
    generalize w.heap.size = D at HP ⊢
    refine (HA.out _).mono ?_
    rintro e w' ⟨rfl, rfl⟩
    go_wp2_with (first
      | (with_reducible refine wpList_load_page HP.out rfl (.tmp 2) rfl rfl ?_)
      | (go_at_call 23; (with_reducible refine (HG.out _).mono ?_); rintro e w2 ⟨rfl, hb⟩))
    go_ret
    exact ⟨rfl, HB.out.trans (hb.mono HB.out.size)⟩
  · have HE : Hid (numN p i = 0) := Lib.hid (by unfold numN; rw [if_neg c])
    have HA := Lib.hid (fun w => among_no 32 i w c)
    rw [HE.out]
    clear hp c HE
    unfold pageV
    go_enter Try.func17, Try.ntmps17
    go_wp2_with (go_at_call 20; (with_reducible refine (HA.out _).mono ?_); rintro e w' ⟨rfl, rfl⟩)
    go_ret
    exact ⟨rfl, HB.out⟩
set_option maxRecDepth 100000 in
set_option maxHeartbeats 1000000 in
theorem setNumber_any (p : List UInt8) (i n : Int) (w : World) (hp : p.length = 64) :
    Calls Try.prog 18 #[pageV p, .int .i64 i, .int .i64 n] w fun e w' => e = .returned (pageV (setNum p i n)) ∧ Below w.heap.size w w' := by
  have HS := Lib.hid (set_start w p hp)
  by_cases c : 0 ≤ i ∧ i < 32
  · have hq := setNum_length p i n hp
    have HG : Hid (∀ w, Calls Try.prog 24 #[pageV p, .int .i64 (i * 2), .int .i64 2, .int .i64 n] w fun e w' => e = .returned (pageV (setNum p i n)) ∧ Below w.heap.size w w') := Lib.hid (fun w => by
      have := set_any p (i * 2) 2 n w hp (by omega) (by omega)
      unfold setNum
      rw [if_pos c, Int.mul_comm 2 i]
      exact this)
    generalize setNum p i n = q at HG hq ⊢
    have HQ := Lib.hid hq
    have HA := Lib.hid (fun w => among_yes 32 i w c.1 c.2)
    obtain ⟨c1, c2⟩ := c
    clear hp hq
    have w1 : IntKind.i64.wrap (i * 2) = i * 2 := IntWalk.i64_in _ (by omega)
    unfold pageV
    go_enter Try.func18, Try.ntmps18
    go_wp2_with fail
    refine (HA.out _).mono ?_
    rintro e w' ⟨rfl, rfl⟩
    rw [← zeroCells_def]
    generalize (w.alloc (.cells (byteVals p).toArray 39)).alloc (.cells zeroCells 39) = w1 at HS ⊢
    go_wp2_with (first
      | (with_reducible refine wpList_load_page HS.out.1 rfl (.tmp 3) rfl rfl ?_)
      | (go_at_call 24; (with_reducible refine (HG.out _).mono ?_); rintro e w2 ⟨rfl, hb⟩; have Z := Lib.hid (HS.out.2.1.step hb); have B := Lib.hid (HS.out.2.2.trans (hb.mono HS.out.2.2.size)); clear hb)
      | (with_reducible refine wpList_store_page Z.out HQ.out rfl (.tmp 6) (.tmp 15) rfl rfl rfl ?_))
    exact bodyPost_ret (results_page _ 6 rfl _ (Z.out.put _ HQ.out) rfl) rfl ⟨rfl, below_setCells _ (by omega) _ _ _ B.out⟩
  · have HE : Hid (setNum p i n = p) := Lib.hid (by unfold setNum; rw [if_neg c])
    have HA := Lib.hid (fun w => among_no 32 i w c)
    have HL := Lib.hid hp
    rw [HE.out]
    clear hp c HE
    unfold pageV
    go_enter Try.func18, Try.ntmps18
    go_wp2_with fail
    refine (HA.out _).mono ?_
    rintro e w' ⟨rfl, rfl⟩
    rw [← zeroCells_def]
    generalize (w.alloc (.cells (byteVals p).toArray 39)).alloc (.cells zeroCells 39) = w1 at HS ⊢
    go_wp2_with (first
      | (with_reducible refine wpList_load_page HS.out.1 rfl (.tmp 3) rfl rfl ?_)
      | (with_reducible refine wpList_store_page HS.out.2.1 HL.out rfl (.tmp 6) (.tmp 10) rfl rfl rfl ?_))
    exact bodyPost_ret (results_page _ 6 rfl _ (HS.out.2.1.put _ HL.out) rfl) rfl ⟨rfl, below_setCells _ (by omega) _ _ _ HS.out.2.2⟩

/-! ### Numbers -/
theorem infoI' : (Try.prog.info? 3).map (fun i => (i.zero, i.size, i.bytes)) = some (some (.int .i64 0), 1, 8) := by kernel_rfl
theorem made_ints (n : Nat) : madeCells (Value.int .i64 0).cells n = Array.replicate n (.int .i64 0) := by
  apply Array.ext'
  unfold madeCells
  have hs : (Value.int .i64 0).cells = #[.int .i64 0] := rfl
  rw [hs, Array.toList_map, Array.toList_range, Array.toList_replicate]
  apply List.ext_getElem
  · simp
  · intro i h1 h2
    simp [Nat.mod_one]
def ints32 : Array Value := Array.replicate 32 (.int .i64 0)
theorem run_make32 (w : World) : (Instr.makeSlice 34 (.int .i64 32) (.int .i64 32)).run Try.prog w = .ok (.slice (some ⟨w.heap.size, 0, none⟩) 32 32) (w.alloc (.cells ints32 3)) := by
  obtain ⟨i, hi, hz, hs, hb⟩ := info_parts infoI'
  have := run_make (P := Try.prog) w 34 3 i (.int .i64 0) Try.underlying34 hi hz .i64 .i64 32 32 (by omega) (by omega) (by rw [hb]; decide) (by decide)
  rw [hs, made_ints] at this
  exact this
/-- a row of 32 numbers, that is being filled -/
structure NumAt (w : World) (B : Nat) (zs : List Int) : Prop where
  cell : ∀ j, j < 32 → w.cell? ⟨B, j, none⟩ = some (.int .i64 (zs.getD j 0))
  free : ∀ j, j < 32 → w.frozen? ⟨B, j, none⟩ = false
theorem numAt_new (w : World) (t : TypeId) : NumAt (w.alloc (.cells ints32 t)) w.heap.size [] where
  cell := fun j hj => by
    rw [World.cell?_alloc_mark]
    unfold ints32
    rw [Array.getElem?_replicate, if_pos hj]; rfl
  free := fun j _ => by rw [World.frozen?_alloc_mark]; simp
theorem NumAt.lt {w : World} {B : Nat} {zs : List Int} (h : NumAt w B zs) : B < w.heap.size := World.block_lt_of_cell? w _ (h.cell 0 (by omega))
theorem NumAt.step {w w' : World} {B : Nat} {zs : List Int} (h : NumAt w B zs) (hb : Below w.heap.size w w') : NumAt w' B zs where
  cell := fun j hj => (hb.cell (p := ⟨B, j, none⟩) h.lt).trans (h.cell j hj)
  free := fun j hj => (hb.frozen (p := ⟨B, j, none⟩) h.lt).trans (h.free j hj)
theorem NumAt.snoc {w : World} {B : Nat} {zs : List Int} (h : NumAt w B zs) (k : Nat) (hk : k < 32) (hl : zs.length = k) (x : Int) : NumAt (w.setCell ⟨B, k, none⟩ (.int .i64 x)) B (zs ++ [x]) where
  cell := fun j hj => by
    rw [List.getD_eq_getElem?_getD]
    by_cases e : k = j
    · subst e
      rw [World.cell?_setCell_same' _ _ _ (by rw [h.cell _ hk]; rfl), List.getElem?_append_right (by omega), hl, Nat.sub_self]; rfl
    · rw [World.cell?_setCell_other _ _ _ _ (fun q => e (by injection q)), h.cell j hj, List.getD_eq_getElem?_getD]
      by_cases f : j < k
      · rw [List.getElem?_append_left (by omega)]
      · rw [List.getElem?_append_right (by omega), List.getElem?_eq_none (l := zs) (by omega), List.getElem?_eq_none (by simp; omega)]
  free := fun j hj => by rw [World.frozen?_setCell]; exact h.free j hj
theorem NumAt.row {w : World} {B : Nat} {zs : List Int} (h : NumAt w B zs) (hl : zs.length = 32) : IntRow w (some ⟨B, 0, none⟩) 32 zs where
  len := hl
  small := by unfold maxLen; omega
  cells := fun _ => ⟨B, 0, rfl, h.lt, fun i x hx => by
    have hi : i < 32 := by have := (List.getElem?_eq_some_iff.1 hx).1; omega
    rw [Nat.zero_add, h.cell i hi, List.getD_eq_getElem?_getD, hx]; rfl⟩
/-- the numbers of a page -/
def numsUpto (p : List UInt8) (k : Nat) : List Int := (List.range k).map fun (j : Nat) => numN p (j : Int)
theorem numsUpto_length (p : List UInt8) (k : Nat) : (numsUpto p k).length = k := by simp [numsUpto]
theorem numsUpto_succ (p : List UInt8) (k : Nat) : numsUpto p (k + 1) = numsUpto p k ++ [numN p (k : Int)] := by simp [numsUpto, List.range_succ]
theorem numsUpto_at (p : List UInt8) (k j : Nat) (h : j < k) : (numsUpto p k)[j]? = some (numN p (j : Int)) := by
  simp [numsUpto, h]
/-- what holds between two rounds -/
structure NKeep (w wr : World) (p : List UInt8) (D B : Nat) (zs : List Int) : Prop where
  page : PageAt wr D p
  nums : NumAt wr B zs
  bel : Below w.heap.size w wr
theorem NKeep.step {w wr wr' : World} {p : List UInt8} {D B : Nat} {zs : List Int} (h : NKeep w wr p D B zs) (hb : Below wr.heap.size wr wr') : NKeep w wr' p D B zs :=
  ⟨h.page.step hb, h.nums.step hb, h.bel.trans (hb.mono h.bel.size)⟩
theorem NKeep.snoc {w wr : World} {p : List UInt8} {D B : Nat} {zs : List Int} (h : NKeep w wr p D B zs) (hDB : D ≠ B) (hwB : w.heap.size ≤ B) (k : Nat) (hk : k < 32) (hl : zs.length = k) (x : Int) : NKeep w (wr.setCell ⟨B, k, none⟩ (.int .i64 x)) p D B (zs ++ [x]) :=
  ⟨h.page.set_other _ _ _ hDB, h.nums.snoc k hk hl x, h.bel.setCell hwB _⟩
set_option maxRecDepth 100000 in
set_option maxHeartbeats 2000000 in
theorem numbers_any (p : List UInt8) (w : World) (hp : p.length = 64) :
    Calls Try.prog 15 #[pageV p] w fun e w' => ∃ B, e = .returned (.slice (some ⟨B, 0, none⟩) 32 32) ∧ IntRow w' (some ⟨B, 0, none⟩) 32 (numsUpto p 32) ∧ Below w.heap.size w w' := by
  have HP := Lib.hid (pageAt_new w p 39 hp)
  have HB : Hid (Below w.heap.size w (w.alloc (.cells (byteVals p).toArray 39))) := Lib.hid ((Below.refl _ _).alloc (Nat.le_refl _) _)
  have HSZ : Hid ((w.alloc (.cells (byteVals p).toArray 39)).heap.size = w.heap.size + 1) := Lib.hid (by simp)
  have HN := Lib.hid (fun i w => number_any p i w hp)
  have hmk := run_make32
  clear hp
  unfold pageV
  go_enter Try.func15, Try.ntmps15
  go_wp2_with fail
  have K0 : Hid (NKeep w ((w.alloc (.cells (byteVals p).toArray 39)).alloc (.cells ints32 3)) p w.heap.size (w.heap.size + 1) (numsUpto p 0)) := Lib.hid (by
    refine ⟨HP.out.alloc _, ?_, HB.out.alloc HB.out.size _⟩
    have := numAt_new (w.alloc (.cells (byteVals p).toArray 39)) 3
    rw [HSZ.out] at this
    exact this)
  generalize (w.alloc (.cells (byteVals p).toArray 39)).alloc (.cells ints32 3) = w1 at K0 ⊢
  obtain ⟨B, hBe⟩ : ∃ B, w.heap.size + 1 = B := ⟨_, rfl⟩
  rw [hBe] at K0 ⊢
  have hDB : Hid (w.heap.size ≠ B ∧ w.heap.size ≤ B) := Lib.hid (by omega)
  clear HP HB HSZ hmk hBe
  obtain ⟨D, hDe⟩ : ∃ D, w.heap.size = D := ⟨_, rfl⟩
  have HD := Lib.hid hDe
  rw [hDe] at K0 ⊢
  clear hDe
  go_loopw [8] (fun i wr => ∃ k : Nat, k ≤ 32 ∧ i = .int .i64 (k : Int) ∧ NKeep w wr p D B (numsUpto p k)) (fun i _ => 32 - (intOf i).toNat)
  case atStart => exact ⟨0, Nat.zero_le _, rfl, K0.out⟩
  case round =>
    obtain ⟨k, hk, rfl, hK⟩ := hrel
    have KK := Lib.hid hK; clear hK K0
    by_cases hlt : k < 32
    · have HU := Lib.hid (numsUpto_succ p k)
      have HL := Lib.hid (numsUpto_length p k)
      have HK : Hid (∀ w, Calls Try.prog 17 #[pageV p, .int .i64 (k : Int)] w fun e w' => e = .returned (.int .i64 (numN p (k : Int))) ∧ Below w.heap.size w w') := Lib.hid (fun w => HN.out (k : Int) w)
      generalize numN p (k : Int) = x at HU HK
      generalize numsUpto p k = zs at KK HU HL
      go_wp2_with (first
        | (with_reducible refine wpList_load_page KK.out.page rfl (.tmp 1) rfl rfl ?_)
        | (go_at_call 17; (with_reducible refine (HK.out _).mono ?_); rintro e w2 ⟨rfl, hb⟩; replace KK := Lib.hid (KK.out.step hb); clear hb; have hc := KK.out.nums.cell k hlt; have hf := KK.out.nums.free k hlt))
      go_roundw
      case rel =>
        have hq := hDB.out
        rw [HD.out] at hq
        exact ⟨k + 1, by omega, by go_num, by rw [HU.out]; exact KK.out.snoc hq.1 (by rw [HD.out]; exact hq.2) k hlt HL.out x⟩
      case measure => simp [intOf]; omega
    · obtain rfl : k = 32 := by omega
      have HL := Lib.hid (numsUpto_length p 32)
      go_wp2_with fail
      go_ret
      rw [← HD.out]
      exact ⟨B, rfl, KK.out.nums.row HL.out, KK.out.bel⟩
end Go.Proofs.Ytjobaoecomdipaa
