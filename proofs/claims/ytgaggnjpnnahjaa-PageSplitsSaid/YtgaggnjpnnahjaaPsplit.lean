/-
  The contracts of page.Zero and page.Split.
-/
import Derived.Test.YtgaggnjpnnahjaaPjoin
import Derived.Test.YtgaggnjpnnahjaaPopen
import Derived.Laws.MakeOwn
namespace Go.Proofs.Ytgaggnjpnnahjaa
open Go.RowKit

/-! ### Zero -/
def zeroB (ps : List (List UInt8)) (n : Nat) : Bool := decide (∀ i, i < n → ps.getD i [] = zeros)
theorem run_eqZero (w : World) (p : List UInt8) (hp : p.length = 64) : (Op.equalIn 10000 23 (.agg (byteVals p).toArray) (.agg zeroCells)).run Try.prog w = .ok (decide (p = zeros)) w := by
  have := run_eqPages w p zeros hp zeros_length
  unfold pageV at this
  exact this
theorem zero_zero (A : Option Addr) (c : Nat) (w : World) :
    Calls Try.prog 18 #[.slice A 0 c] w fun e w' => e = .returned (.bool true) ∧ Below w.heap.size w w' := by
  go_enter Try.func18, Try.ntmps18
  go_wp2_with fail
  go_loop [7] (fun i => i = .int .i64 0) (fun _ => 0)
  case atStart => exact rfl
  case round =>
    obtain rfl := hrel
    go_wp2
    go_ret
    exact ⟨rfl, Below.refl _ _⟩
set_option maxHeartbeats 2000000 in
set_option maxRecDepth 100000 in
theorem zero_row (b off n c : Nat) (ps : List (List UInt8)) (w : World) (hl : ps.length = n) (hn : n ≤ 1000) (hb : b < w.heap.size)
    (hsize : ∀ i, i < n → (ps.getD i []).length = 64) (hcell : ∀ i, i < n → w.rangeAt b (off + i * 64) (byteVals (ps.getD i []))) :
    Calls Try.prog 18 #[.slice (some ⟨b, off, none⟩) n c] w fun e w' => e = .returned (.bool (zeroB ps n)) ∧ Below w.heap.size w w' := by
  have HC := Lib.hid hcell
  have HZ := Lib.hid hsize
  clear hcell hl hsize
  go_enter Try.func18, Try.ntmps18
  go_wp2_with fail
  go_loopw [7] (fun i wr => ∃ k : Nat, k ≤ n ∧ i = .int .i64 k ∧ Hid (∀ j, j < k → ps.getD j [] = zeros) ∧ Below w.heap.size w wr) (fun i _ => n - (intOf i).toNat)
  case atStart => exact ⟨0, Nat.zero_le _, rfl, Lib.hid (fun j hj => by omega), Below.refl _ _⟩
  case round =>
    obtain ⟨k, hk, rfl, HA, hbel⟩ := hrel
    by_cases hlt : k < n
    · have hcr : Hid (wr.rangeAt b (off + k * 64) (byteVals (ps.getD k []))) := Lib.hid fun j v hv => (hbel.cell (p := ⟨b, off + k * 64 + j, none⟩) hb).trans (HC.out k hlt j v hv)
      have hz := Lib.hid (HZ.out k hlt)
      have hlen : Hid ((byteVals (ps.getD k [])).length = 64) := Lib.hid (by rw [byteVals_length]; exact hz.out)
      have heq := fun W => run_eqZero W (ps.getD k []) hz.out
      rw [zeroCells_def] at heq
      by_cases hp : ps.getD k [] = zeros
      · have hd : decide (ps.getD k [] = zeros) = true := decide_eq_true hp
        rw [hd] at heq
        have HA2 : Hid (∀ j, j < k + 1 → ps.getD j [] = zeros) := Lib.hid (fun j hj => by
          rcases Nat.lt_or_ge j k with h | h
          · exact HA.out j h
          · obtain rfl : j = k := by omega
            exact hp)
        clear hp hd
        generalize ps.getD k [] = p at hcr hz hlen heq
        go_wp2_with (first
          | (with_reducible refine wpList_load_mid rfl 23 (.tmp 9) rfl b (off + k * 64) rfl (byteVals p) _ hcr.out Try.underlying23 rfl (page_info.trans (congrArg some hlen.out.symm)) ?_)
          | ((with_reducible refine wpList_store_new rfl (.tmp 4) (.tmp 10) rfl rfl ?_ ?_ hz.out ?_); (exact rfl); (exact rfl); intro W2 hP hB2 hz2)
          | (with_reducible refine wpList_load_mid rfl 23 (.tmp 4) rfl wr.heap.size 0 rfl (byteVals p) _ hP.range Try.underlying23 rfl (page_info.trans (congrArg some hlen.out.symm)) ?_))
        go_roundw
        case rel => exact ⟨k + 1, by omega, by go_num, HA2, hbel.trans (hB2.mono hbel.size)⟩
        case measure => simp [intOf]; omega
      · have hd : decide (ps.getD k [] = zeros) = false := decide_eq_false hp
        rw [hd] at heq
        have HF : Hid (zeroB ps n = false) := Lib.hid (by unfold zeroB; rw [decide_eq_false_iff_not]; exact fun h => hp (h k hlt))
        clear hp hd
        generalize ps.getD k [] = p at hcr hz hlen heq
        go_wp2_with (first
          | (with_reducible refine wpList_load_mid rfl 23 (.tmp 9) rfl b (off + k * 64) rfl (byteVals p) _ hcr.out Try.underlying23 rfl (page_info.trans (congrArg some hlen.out.symm)) ?_)
          | ((with_reducible refine wpList_store_new rfl (.tmp 4) (.tmp 10) rfl rfl ?_ ?_ hz.out ?_); (exact rfl); (exact rfl); intro W2 hP hB2 hz2)
          | (with_reducible refine wpList_load_mid rfl 23 (.tmp 4) rfl wr.heap.size 0 rfl (byteVals p) _ hP.range Try.underlying23 rfl (page_info.trans (congrArg some hlen.out.symm)) ?_))
        go_ret
        exact ⟨ret_bool HF.out.symm, hbel.trans (hB2.mono hbel.size)⟩
    · obtain rfl : k = n := by omega
      have HT : Hid (zeroB ps k = true) := Lib.hid (by unfold zeroB; exact decide_eq_true HA.out)
      go_wp2
      go_ret
      exact ⟨ret_bool HT.out.symm, hbel⟩
theorem zero_any (A : Option Addr) (n c : Nat) (ps : List (List UInt8)) (w : World) (h : PageRow w A n ps) (hn : n ≤ 1000) :
    Calls Try.prog 18 #[.slice A n c] w fun e w' => e = .returned (.bool (zeroB ps n)) ∧ Below w.heap.size w w' := by
  by_cases h0 : n = 0
  · subst h0
    have : zeroB ps 0 = true := by unfold zeroB; exact decide_eq_true (fun i hi => by omega)
    rw [this]
    exact zero_zero A c w
  · obtain ⟨b, off, rfl, hlt, hc⟩ := h.cells (by omega)
    exact zero_row b off n c ps w h.len hn hlt h.size hc

/-! ### Split -/
/-- bytes that lie in a block from its head on, and may be written -/
structure RowAt (w : World) (b : Nat) (L : List UInt8) : Prop where
  range : w.rangeAt b 0 (byteVals L)
  free : w.there b 0 L.length
theorem rowAt_new (w : World) (L : List UInt8) (t : TypeId) : RowAt (w.alloc (.cells (byteVals L).toArray t)) w.heap.size L where
  range := fun j v hv => by
    rw [Nat.zero_add, World.cell?_alloc_mark]
    simpa using hv
  free := there_new w _ t _ (by rw [List.size_toArray, byteVals_length]; omega)
theorem RowAt.over {w : World} {b : Nat} {L : List UInt8} (h : RowAt w b L) (a : Nat) (s : List UInt8) (hs : a + s.length ≤ L.length) : RowAt (w.setCells b a (byteVals s)) b (Pg.over L a s) where
  range := fun j v hv => by
    rw [Nat.zero_add]
    have hv' : (Pg.over L a s)[j]?.map (fun c => Value.int .u8 (c.toNat : Int)) = Option.some v := by rw [← hv]; unfold byteVals; rw [List.getElem?_map]
    rw [Pg.over_at _ _ _ _ hs] at hv'
    by_cases h1 : a ≤ j ∧ j < a + s.length
    · rw [if_neg (by omega), if_pos h1.2] at hv'
      have hin := World.cell?_setCells_in b (byteVals s) a w (fun i hi => by
        have := (h.free (a + i) (by rw [byteVals_length] at hi; omega)).1
        rwa [Nat.zero_add] at this) (j - a) (by rw [byteVals_length]; omega)
      rw [show a + (j - a) = j by omega] at hin
      rw [hin, ← hv', ← List.getElem?_eq_getElem]
      unfold byteVals
      rw [List.getElem?_map]
    · rw [World.cell?_setCells_out b (byteVals s) a w ⟨b, j, none⟩ (fun _ _ => by rw [byteVals_length]; show j < a ∨ a + s.length ≤ j; omega)]
      have hpj : L[j]?.map (fun c => Value.int .u8 (c.toNat : Int)) = Option.some v := by
        by_cases h2 : j < a
        · rw [if_pos h2] at hv'; exact hv'
        · rw [if_neg h2, if_neg (by omega)] at hv'; exact hv'
      have := h.range j v (by unfold byteVals; rw [List.getElem?_map]; exact hpj)
      rwa [Nat.zero_add] at this
  free := by
    rw [Pg.over_length _ _ _ hs]
    exact World.there_setCells h.free _ _ _
theorem RowAt.drew {w : World} {b : Nat} {L : List UInt8} (h : RowAt w b L) : RowAt w.drew b L := ⟨(World.rangeAt_drew ..).2 h.range, (World.there_drew ..).2 h.free⟩
/-- a part of it -/
theorem RowAt.part {w : World} {b : Nat} {L : List UInt8} (h : RowAt w b L) (a n : Nat) : w.rangeAt b a (byteVals ((L.drop a).take n)) := fun j v hv => by
  unfold byteVals at hv
  rw [List.getElem?_map, List.getElem?_take] at hv
  by_cases hj : j < n
  · rw [if_pos hj, List.getElem?_drop] at hv
    have := h.range (a + j) v (by unfold byteVals; rw [List.getElem?_map]; exact hv)
    rwa [Nat.zero_add] at this
  · rw [if_neg hj] at hv; cases hv

theorem made_zero (N : Nat) : madeCells (Value.agg zeroCells).cells N = (byteVals (List.replicate N 0)).toArray := by
  apply Array.ext'
  have hz : ∀ i, i < 64 → (zeroCells : Array Value)[i]! = .int .u8 0 := fun i hi => by
    have h1 : zeroCells[i]? = some (.int .u8 0) := by
      unfold zeroCells
      rw [List.getElem?_toArray, byteVals_at zeros i (by rw [zeros_length]; exact hi)]
      have h2 : ∀ (j : Nat) (hj : j < zeros.length), zeros[j] = 0 := fun j hj => List.getElem_replicate ..
      rw [h2]; rfl
    rw [getElem!_def, h1]
  have hs : (Value.agg zeroCells).cells = zeroCells := rfl
  have hsz : zeroCells.size = 64 := rfl
  rw [hs]
  unfold madeCells
  rw [hsz, Array.toList_map, Array.toList_range]
  unfold byteVals
  rw [List.map_replicate]
  apply List.ext_getElem
  · simp
  · intro i h1 h2
    simp only [List.getElem_map, List.getElem_range, List.getElem_replicate]
    exact hz _ (Nat.mod_lt _ (by omega))
theorem info_page : (Try.prog.info? 23).map (fun i => (i.zero, i.size, i.bytes)) = some (some (.agg zeroCells), 64, 64) := by kernel_rfl
theorem run_make_pages (w : World) (n : Nat) (hn : n ≤ 1000) : (Instr.makeSlice 33 (.int .i64 (n : Int)) (.int .i64 (n : Int))).run Try.prog w = .ok (.slice (some ⟨w.heap.size, 0, none⟩) n n) (w.alloc (.cells (byteVals (List.replicate (n * 64) 0)).toArray 23)) := by
  obtain ⟨i, hi, hz, hs, hb⟩ := info_parts info_page
  have := run_make (P := Try.prog) w 33 23 i (.agg zeroCells) Try.underlying33 hi hz .i64 .i64 (n : Int) (n : Int) (by omega) (by omega) (by rw [hb]; omega) (by omega)
  rw [hs, Int.toNat_natCast, made_zero] at this
  exact this
theorem run_slice_part (w : World) (b o : Nat) :
    (Instr.sliceAt 23 (.pointer (some ⟨b, o, none⟩)) none none none).run Try.prog w = .ok (.slice (some ⟨b, o, none⟩) 64 64) w := by
  rw [run_sliceAt_array_all w _ _ underP, elemP, run_size8, arrP, Result.andThen_ok]
  unfold slicedAt
  rw [if_neg (by omega), Nat.zero_mul, Addr.add_mid, Nat.add_zero]

/-- as much of a text as there is room for is copied into a part of a row -/
theorem run_copy_part (w : World) (b o : Nat) (s : ByteArray) (a : Nat) (l : List UInt8) (hl : l = (s.data.toList.drop a).take 64) (ha : a ≤ s.size) (ht : w.there b o l.length) :
    (Builtin.copy_ #[39, 9] 3 #[.slice (some ⟨b, o, none⟩) 64 64, .string (s.extract a s.size)]).run Try.prog w = .ok (goInt l.length) (w.setCells b o (byteVals l)) := by
  have hu : (s.extract a s.size).data.toList = s.data.toList.drop a := by
    rw [ByteArray.data_extract, Array.toList_extract]
    apply List.take_of_length_le
    simp
  have husz : (s.extract a s.size).size = s.size - a := by simp
  have hll : l.length = min 64 (s.size - a) := by rw [hl]; simp
  have hmin : Nat.min (s.extract a s.size).size 64 = l.length := by rw [husz, hll]; exact Nat.min_comm _ _
  have hcells : ((s.extract a s.size).extract 0 l.length).data.map (fun b => Value.int .u8 (b.toNat : Int)) = (byteVals l).toArray := by
    unfold byteVals
    apply Array.ext'
    rw [Array.toList_map]
    congr 1
    rw [ByteArray.data_extract, Array.toList_extract, hu, List.extract_eq_take_drop, List.drop_zero, Nat.sub_zero]
    conv => rhs; rw [hl]
    rw [List.take_eq_take_iff]
    rw [hll]
    simp
  have hst := run_storeCells_cells (P := Try.prog) b o (byteVals l) 0 w (fun j hj => (ht j (by rw [byteVals_length] at hj; exact hj)).1) (fun j hj => (ht j (by rw [byteVals_length] at hj; exact hj)).2) (byteVals_one _)
  rw [Nat.add_zero] at hst
  have hsz := run_size8 w
  unfold Builtin.copy_
  simp only [List.getElem?_toArray, List.getElem?_cons_zero, List.getElem?_cons_succ, Sem.run_bind, run_underlying Try.underlying39, Result.andThen_ok, Builtin.lenOf, Sem.run_pure, hmin, hsz, Builtin.firstCells, hcells, hst]
theorem over_over (p a c : List UInt8) : Pg.over (Pg.over p 0 a) a.length c = Pg.over p 0 (a ++ c) := by
  unfold Pg.over
  simp [List.drop_append, List.take_append]

/-- bytes filled up with 0 to so many pages -/
def padded (n : Nat) (l : List UInt8) : List UInt8 := Pg.over (List.replicate (n * 64) 0) 0 l
set_option maxHeartbeats 2000000 in
set_option maxRecDepth 100000 in
theorem split_walk (s : ByteArray) (n : Nat) (w : World) (hn : n = (s.size + 63) / 64) (hs : s.size ≤ 60000) :
    Calls Try.prog 16 #[.string s] w fun e w' => e = .returned (.slice (some ⟨w.heap.size, 0, none⟩) n n) ∧ RowAt w' w.heap.size (padded n s.data.toList) ∧ w.heap.size < w'.heap.size ∧ Below w.heap.size w w' := by
  have hq : ((s.size : Int) + 64 - 1) / 64 = (n : Int) := by omega
  have hmk := run_make_pages w n (by omega)
  have HN := Lib.hid hn
  clear hn
  go_enter Try.func16, Try.ntmps16
  go_wp2_with fail
  have HR := Lib.hid (rowAt_new w (List.replicate (n * 64) 0) 23)
  have HB : Hid (Below w.heap.size w (w.alloc (.cells (byteVals (List.replicate (n * 64) 0)).toArray 23))) := Lib.hid ((Below.refl _ _).alloc (Nat.le_refl _) _)
  have hz : w.heap.size < (w.alloc (.cells (byteVals (List.replicate (n * 64) 0)).toArray 23)).heap.size := by simp
  have HZ := Lib.hid hz
  clear hz hmk hq
  generalize w.alloc (.cells (byteVals (List.replicate (n * 64) 0)).toArray 23) = w1 at HR HB HZ ⊢
  go_loopw [13] (fun i wr => ∃ k : Nat, k ≤ n ∧ i = .int .i64 k ∧ RowAt wr w.heap.size (padded n (s.data.toList.take (k * 64))) ∧ w.heap.size < wr.heap.size ∧ Below w.heap.size w wr) (fun i _ => n - (intOf i).toNat)
  case atStart => exact ⟨0, Nat.zero_le _, rfl, by rw [Nat.zero_mul, List.take_zero, padded, Pg.over_nil]; exact HR.out, HZ.out, HB.out⟩
  case round =>
    obtain ⟨k, hk, rfl, hr, hsz, hbel⟩ := hrel
    have HRK := Lib.hid hr
    clear hr
    by_cases hlt : k < n
    · have hsl := run_slice_part wr.drew w.heap.size (k * 64)
      have hb1 : (k : Int) * 64 ≤ (s.size : Int) := by have := HN.out; omega
      have hb0 : 0 ≤ (k : Int) * 64 := by omega
      obtain ⟨l, hl⟩ : ∃ l, l = (s.data.toList.drop (k * 64)).take 64 := ⟨_, rfl⟩
      have hll : l.length ≤ 64 := by rw [hl]; simp; omega
      have htk : (s.data.toList.take (k * 64)).length = k * 64 := by simp; omega
      have hstep : padded n (s.data.toList.take ((k + 1) * 64)) = Pg.over (padded n (s.data.toList.take (k * 64))) (k * 64) l := by
        unfold padded
        have := over_over (List.replicate (n * 64) 0) (s.data.toList.take (k * 64)) l
        rw [htk] at this
        rw [this, hl, Nat.add_mul, Nat.one_mul, List.take_add]
      have hfit : k * 64 + l.length ≤ (padded n (s.data.toList.take (k * 64))).length := by
        unfold padded
        rw [Pg.over_length _ _ _ (by rw [htk, List.length_replicate]; omega), List.length_replicate]; omega
      have hcp := run_copy_part wr.drew w.heap.size (k * 64) s (k * 64) l hl (by omega) (fun j hj => by
        have := HRK.out.drew.free (k * 64 + j) (by omega)
        rwa [Nat.zero_add] at this)
      have HR2 := Lib.hid (HRK.out.drew.over (k * 64) l hfit)
      have HS := Lib.hid hstep
      clear hl htk hstep hfit hll
      go_wp2_with fail
      go_region
      go_wp2_with fail
      go_roundw
      case rel =>
        refine ⟨k + 1, by omega, by go_num, by rw [HS.out]; exact HR2.out, ?_, ?_⟩
        · rw [heap_setCells]; exact hsz
        · exact below_setCells _ (Nat.le_refl _) _ _ _ hbel.drew
      case measure => simp [intOf]; omega
    · have htk : s.data.toList.take (k * 64) = s.data.toList := List.take_of_length_le (by have := HN.out; simp; omega)
      rw [htk] at HRK
      clear htk
      go_wp2
      go_ret
      exact ⟨rfl, HRK.out, hsz, hbel⟩
end Go.Proofs.Ytgaggnjpnnahjaa
