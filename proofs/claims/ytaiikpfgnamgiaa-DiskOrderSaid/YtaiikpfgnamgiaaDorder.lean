/-
  Proved: DiskOrder returns true for all places and pages: pages that are written in any order last, behind a Flush, as the last content of each says.
  Conditions: none beside the statement's own.
-/
import Derived.Test.YtaiikpfgnamgiaaDordm
import Derived.Test.YtaiikpfgnamgiaaDheld
import Derived.Deep.DeepMust
namespace Go.Proofs.Ytaiikpfgnamgiaa.diskOrder
open Go.ChangeShapes Go.WideShapes Go.ChangeAt Go.RowKit
open Dk (zeros zeros_length)

set_option maxHeartbeats 1000000 in
theorem walk_long (A : Option Addr) (n ca : Nat) (v : Value) (w : World) (hn : n ≤ maxLen) (h : 60 < n) :
    Calls Try.prog 6 #[.slice A n ca, v] w fun e w' => e = .returned (.bool true) ∧ Below w.heap.size w w' := by
  unfold maxLen at hn
  have h60 : (60 : Int) < (n : Int) := by omega
  go_enter Try.func6, Try.ntmps6
  go_wp2_with (go_at_call 7; refine (awake_any _).mono ?_; rintro e w1 ⟨rfl, hb1⟩)
  go_ret
  exact ⟨rfl, hb1⟩
set_option maxHeartbeats 8000000 in
set_option maxRecDepth 100000 in
theorem walk_main (A : Option Addr) (n ca : Nat) (bs : List UInt8) (A2 : Option Addr) (n2 c2 : Nat) (ps : List (List UInt8)) (w : World) (hn : n ≤ 60) (hrow : ByteRow w A n ca bs) (hrow2 : PageRow w A2 n2 ps) :
    Calls Try.prog 6 #[.slice A n ca, .slice A2 n2 c2] w fun e w' => e = .returned (.bool true) ∧ Below w.heap.size w w' := by
  have HR1 := Lib.hid hrow
  have HR2 := Lib.hid hrow2
  have hn2 := hrow2.small
  unfold maxLen at hn2
  have h60 : ¬ (60 : Int) < (n : Int) := by omega
  have hmm := @run_makeMap Try.prog
  clear hrow hrow2
  go_enter Try.func6, Try.ntmps6
  go_wp2_with fail
  refine (awake_any _).mono ?_
  rintro e w1 ⟨rfl, hb1⟩
  have HB1 := Lib.hid hb1
  clear hb1
  have HNW : Hid (Calls Try.prog 8 #[.int .i64 16] w1 fun e w' => e = .returned (.tuple #[.pointer (some ⟨w1.heap.size + 2, 0, none⟩), .int .i64 0]) ∧ w' = newWorld w1 16) := Lib.hid (new_any 16 w1 (by omega) (by omega))
  go_wp2_with fail
  refine HNW.out.mono ?_
  rintro e w2 ⟨rfl, rfl⟩
  clear HNW
  have HL0 := Lib.hid (Live.start w1 16 (by omega) (by omega))
  rw [st16_fresh] at HL0
  have HO0 : Hid (OrdAt w (w1.heap.size + 2) w1.heap.size (w1.heap.size + 1) (newWorld w1 16).heap.size (List.replicate 16 none) (st16 (List.replicate 16 none)) ((newWorld w1 16).alloc (.map #[] 0))) := Lib.hid {
    live := (Live.mk HL0.out.disk (HB1.out.trans (HL0.out.below.mono HB1.out.size)) (by have := HB1.out.size; omega)).byAlloc _
    map := mapAt_made _ 16
    len := by simp
    qd := by rw [newWorld_size]; omega
    ql := by rw [newWorld_size]; omega
    qm := by rw [newWorld_size]; omega
    qold := by rw [newWorld_size]; have := HB1.out.size; omega
    pages := fun i p hp => by
      rw [List.getD_eq_getElem?_getD, List.getElem?_replicate] at hp
      split at hp <;> cases hp }
  clear HL0 HB1
  generalize newWorld w1 16 = w3 at HO0 ⊢
  generalize w1.heap.size + 2 = d at HO0 ⊢
  generalize w1.heap.size + 1 = m at HO0
  generalize w1.heap.size = l at HO0
  go_wp2_with fail
  generalize w3.alloc (.map #[] 0) = w4 at HO0 ⊢
  generalize w3.heap.size = q at HO0 ⊢
  clear hmm
  go_loopw [28] (fun i wr => ∃ (k : Nat) (c : List (Option (List UInt8))), k ≤ n ∧ i = .int .i64 k ∧ OrdAt w d l m q c (st16 c) wr) (fun i _ => n - (intOf i).toNat)
  case atStart => exact ⟨0, _, Nat.zero_le _, rfl, HO0.out⟩
  case round =>
    obtain ⟨k, c, hk, rfl, hord⟩ := hrel
    have HO := Lib.hid hord
    clear hord HO0
    by_cases hlt : k < n
    · obtain ⟨ab, ao, rfl, hab, hac⟩ := HR1.out.cells (by omega)
      have hcell : wr.cell? ⟨ab, ao + k, none⟩ = some (.int .u8 ((bs.getD k 0).toNat : Int)) := (HO.out.live.below.cell (p := ⟨ab, ao + k, none⟩) hab).trans (hac k hlt)
      clear hab hac
      generalize bs.getD k 0 = x at hcell
      have hx := x.toNat_lt
      obtain ⟨j, hj, hj16⟩ : ∃ j : Nat, (x.toNat : Int) % 16 = (j : Int) ∧ j < 16 := ⟨x.toNat % 16, by omega, by omega⟩
      have HBD : Hid (wr.heap.size ≠ d) := Lib.hid (by have := HO.out.live.disk.dlt; omega)
      have HBM : Hid (wr.heap.size ≠ m) := Lib.hid (by have := HO.out.live.disk.mlt; omega)
      have HN1 := fun (x y : Operand) (w : World) => run_neGuard_zero w x y zeros
      have HN2 := fun (w : World) => run_neq_zero w zeros zeros_length
      rw [zeroCells_def] at HN1 HN2
      simp only [decide_true, Bool.not_true] at HN2
      by_cases hk2 : k < n2
      · obtain ⟨pb, po, rfl, hpb, hpc⟩ := HR2.out.cells (by omega)
        have hk2' : (k : Int) < (n2 : Int) := by omega
        obtain ⟨p, hp⟩ : ∃ p, ps.getD k [] = p := ⟨_, rfl⟩
        have HPL : Hid (p.length = 64) := Lib.hid (hp ▸ HR2.out.size k hk2)
        have hrg : wr.rangeAt pb (po + k * 64) (byteVals p) := fun j v hv => (HO.out.live.below.cell (p := ⟨pb, po + k * 64 + j, none⟩) hpb).trans (hpc k hk2 j v (by rw [hp]; exact hv))
        have HRG := Lib.hid hrg
        have HBL : Hid ((byteVals p).length = 64) := Lib.hid (by rw [byteVals_length]; exact HPL.out)
        clear hp hpb hpc hrg
        go_wp2_with (first
          | (with_reducible refine wpList_load_mid rfl 31 (.tmp 39) rfl pb (po + k * 64) rfl (byteVals p) _ (World.rangeAt_alloc HRG.out _) Try.underlying31 rfl (page_info.trans (congrArg some HBL.out.symm)) ?_)
          | ((with_reducible refine wpList_store_new rfl (.tmp 10) (.tmp 40) rfl rfl ?_ ?_ HPL.out ?_); (exact rfl); (exact rfl); intro W2 hP2 hB2 hz2; have HP2 := Lib.hid hP2; have HO2 := Lib.hid (HO.out.byBelow hB2); clear hP2 hB2 hz2)
          | (with_reducible refine wpList_load_page HP2.out rfl (.tmp 10) rfl rfl ?_))

        have HW : Hid (Calls Try.prog 10 #[.pointer (some ⟨d, 0, none⟩), .int .i64 (j : Int), pageV p] W2 fun e w' => e = .returned (.int .i64 0) ∧ DiskAt w' d l m (st16 (c.set j (some p))) ∧ Only [d, m] W2 w') := Lib.hid (by
          have := write_any HO2.out.live.disk (j : Int) p HPL.out
          rw [st16_writeE c j hj16, st16_write c j p hj16] at this
          exact this)
        refine HW.out.mono ?_
        rintro e W3 ⟨rfl, hd3, ho3⟩
        have HO3 := Lib.hid (HO2.out.byOnly hd3 ho3 (by simp))
        have HP3 := Lib.hid (HP2.out.block (ho3.block _ HP2.out.lt (by simp; exact ⟨HBD.out, HBM.out⟩)))
        clear HW hd3 ho3 HO2 HP2
        have HLS : Hid (Calls Try.prog 24 #[.pointer (some ⟨d, 0, none⟩), .int .i64 (j : Int)] W3 fun e w' => e = .returned (pageV zeros) ∧ Below W3.heap.size W3 w') := Lib.hid (by
          have := lasts_any HO3.out.live.disk (j : Int)
          rw [st16_lasts _ j hj16] at this
          exact this)
        go_wp2_with fail
        refine HLS.out.mono ?_
        rintro e W4 ⟨rfl, hb4⟩
        have HO4 := Lib.hid (HO3.out.byBelow hb4)
        have HP4 := Lib.hid (HP3.out.below hb4 HP3.out.lt)
        clear HLS HO3 HP3 hb4
        go_wp2_with (first
          | (with_reducible refine wpList_load_page HP4.out rfl (.tmp 10) rfl rfl ?_)
          | (at_mapUpdate; go_must (refine wpList_map_store HO4.out.map j (by rw [HO4.out.len]; exact hj16) (by rw [HO4.out.len]; omega) HPL.out rfl (.tmp 57) (.tmp 60) (.tmp 61) rfl rfl (congrArg (Value.int .i64) hj) rfl ?_); intro W5 hm5 ht5))
        go_roundw
        case rel => exact ⟨k + 1, _, by omega, by go_num, HO4.out.byStore j HPL.out hm5 ht5⟩
        case measure => simp [intOf]; omega
      · have hk2' : ¬ (k : Int) < (n2 : Int) := by omega
        have HP2 := Lib.hid (pageAt_zeros wr 31)
        have HO2 := Lib.hid (HO.out.byBelow ((Below.refl _ _).alloc (Nat.le_refl _) (.cells zeroCells 31)))
        have HPL : Hid (zeros.length = 64) := Lib.hid zeros_length
        rw [zeroCells_def] at HP2 HO2
        go_wp2_with (with_reducible refine wpList_load_page HP2.out rfl (.tmp 10) rfl rfl ?_)
        rw [← zeroCells_def] at HP2 HO2 ⊢
        generalize wr.alloc (.cells zeroCells 31) = W2 at HP2 HO2 ⊢
        generalize zeros = p at HP2 HPL ⊢

        have HW : Hid (Calls Try.prog 10 #[.pointer (some ⟨d, 0, none⟩), .int .i64 (j : Int), pageV p] W2 fun e w' => e = .returned (.int .i64 0) ∧ DiskAt w' d l m (st16 (c.set j (some p))) ∧ Only [d, m] W2 w') := Lib.hid (by
          have := write_any HO2.out.live.disk (j : Int) p HPL.out
          rw [st16_writeE c j hj16, st16_write c j p hj16] at this
          exact this)
        refine HW.out.mono ?_
        rintro e W3 ⟨rfl, hd3, ho3⟩
        have HO3 := Lib.hid (HO2.out.byOnly hd3 ho3 (by simp))
        have HP3 := Lib.hid (HP2.out.block (ho3.block _ HP2.out.lt (by simp; exact ⟨HBD.out, HBM.out⟩)))
        clear HW hd3 ho3 HO2 HP2
        have HLS : Hid (Calls Try.prog 24 #[.pointer (some ⟨d, 0, none⟩), .int .i64 (j : Int)] W3 fun e w' => e = .returned (pageV zeros) ∧ Below W3.heap.size W3 w') := Lib.hid (by
          have := lasts_any HO3.out.live.disk (j : Int)
          rw [st16_lasts _ j hj16] at this
          exact this)
        go_wp2_with fail
        refine HLS.out.mono ?_
        rintro e W4 ⟨rfl, hb4⟩
        have HO4 := Lib.hid (HO3.out.byBelow hb4)
        have HP4 := Lib.hid (HP3.out.below hb4 HP3.out.lt)
        clear HLS HO3 HP3 hb4
        go_wp2_with (first
          | (with_reducible refine wpList_load_page HP4.out rfl (.tmp 10) rfl rfl ?_)
          | (at_mapUpdate; go_must (refine wpList_map_store HO4.out.map j (by rw [HO4.out.len]; exact hj16) (by rw [HO4.out.len]; omega) HPL.out rfl (.tmp 57) (.tmp 60) (.tmp 61) rfl rfl (congrArg (Value.int .i64) hj) rfl ?_); intro W5 hm5 ht5))
        go_roundw
        case rel => exact ⟨k + 1, _, by omega, by go_num, HO4.out.byStore j HPL.out hm5 ht5⟩
        case measure => simp [intOf]; omega
    · obtain rfl : k = n := by omega
      have HC1 : Hid (Calls Try.prog 21 #[.pointer (some ⟨d, 0, none⟩)] wr fun e w' => e = .returned (.int .i64 (c.countP (·.isSome) : Nat)) ∧ wr = w') := Lib.hid (cached_any HO.out.live.disk)
      have hlen := HO.out.map.len
      have HF : Hid (Calls Try.prog 14 #[.pointer (some ⟨d, 0, none⟩)] wr fun e w' => e = .returned (.int .i64 0) ∧ DiskAt w' d l m (fl16 c) ∧ Only [d, l, m] wr w') := Lib.hid (by
        have := flush_any HO.out.live.disk
        rw [st16_flushE] at this
        exact this)
      generalize c.countP (·.isSome) = K at HC1 hlen
      go_wp2_with fail
      refine HC1.out.mono ?_
      rintro e w' ⟨rfl, rfl⟩
      clear HC1
      go_wp2_with fail
      refine HF.out.mono ?_
      rintro e w5 ⟨rfl, hd5, ho5⟩
      have HO5 := Lib.hid (HO.out.byOnly hd5 ho5 (by simp))
      clear HF hd5 ho5 HO hlen
      have HC2 : Hid (Calls Try.prog 21 #[.pointer (some ⟨d, 0, none⟩)] w5 fun e w' => e = .returned (.int .i64 0) ∧ w5 = w') := Lib.hid (by
        have := cached_any HO5.out.live.disk
        rw [fl16_count] at this
        exact this)
      go_wp2_with fail
      refine HC2.out.mono ?_
      rintro e w' ⟨rfl, rfl⟩
      clear HC2
      go_wp2_with fail
      go_loopw [11] (fun v wr => ∃ i : Nat, i ≤ 16 ∧ v = .int .i64 i ∧ OrdAt w d l m q c (fl16 c) wr) (fun v _ => 16 - (intOf v).toNat)
      case atStart => exact ⟨0, by omega, rfl, HO5.out⟩
      case round =>
        obtain ⟨i, hi, rfl, hord⟩ := hrel
        have HO6 := Lib.hid hord
        clear hord HO5
        by_cases hlt2 : i < 16
        · obtain ⟨P, hP⟩ : ∃ P, (c.getD i none).getD zeros = P := ⟨_, rfl⟩
          have HPP := Lib.hid hP
          have HPL : Hid (P.length = 64) := Lib.hid (hP ▸ held_len HO6.out.pages i)
          have HRD : Hid (Calls Try.prog 12 #[.pointer (some ⟨d, 0, none⟩), .int .i64 (i : Int)] wr fun e w' => e = .returned (.tuple #[pageV P, .int .i64 0]) ∧ Below wr.heap.size wr w') := Lib.hid (by
            have := read_any HO6.out.live.disk (i : Int)
            rw [fl16_read c i hlt2, fl16_reach c i hlt2, hP] at this
            exact this)
          have HLS : Hid (∀ W, OrdAt w d l m q c (fl16 c) W → Calls Try.prog 24 #[.pointer (some ⟨d, 0, none⟩), .int .i64 (i : Int)] W fun e w' => e = .returned (pageV P) ∧ Below W.heap.size W w') := Lib.hid (fun W hW => by
            have := lasts_any hW.live.disk (i : Int)
            rw [fl16_lasts c i hlt2, hP] at this
            exact this)
          clear hP
          have HN1 := fun (x y : Operand) (w : World) => run_neGuard_page w x y P P
          have HN2 := fun (w : World) => run_neq_same w P HPL.out
          go_wp2_with fail
          refine HRD.out.mono ?_
          rintro e w7 ⟨rfl, hb7⟩
          have HO7 := Lib.hid (HO6.out.byBelow hb7)
          clear HRD HO6 hb7
          go_wp2_with ((with_reducible refine wpList_store_new rfl (.tmp 12) (.tmp 86) rfl rfl ?_ ?_ HPL.out ?_); (exact rfl); (exact rfl); intro W8 hP8 hB8 hz8; have HP8 := Lib.hid hP8; have HO8 := Lib.hid (HO7.out.byBelow hB8); clear hP8 hB8 hz8)
          refine wp_region_noPanic ?_
          refine wp_region_held_drew (S := fun W => PageAt W w7.heap.size P ∧ OrdAt w d l m q c (fl16 c) W) (by kernel_rfl) ⟨HP8.out.drew, HO8.out.byBelow (Below.refl _ _).drew⟩ (fun hHeld => ?_)
          refine take_at (i := 0) (d := some 88) (v := .int .i64 0) rfl rfl (by kernel_rfl) (by kernel_rfl) (by kernel_rfl) (fun _ _ _ h => h) (Or.inl ⟨by kernel_rfl, ?_⟩) hHeld ?_
          · intro w hSw; obtain ⟨s1, s2⟩ := hSw; have hlk := s2.map.look1 i (by omega); rw [HPP.out] at hlk; clear s1 s2; go_simp
          (try simp only [Act.put, List.setIfInBounds_toArray, List.set_cons_zero, List.set_cons_succ])
          refine take_at (i := 1) (d := some 89) (v := .bool false) rfl rfl (by kernel_rfl) (by kernel_rfl) (by kernel_rfl) (fun _ _ _ h => h) (Or.inl ⟨by kernel_rfl, ?_⟩) hHeld ?_
          · intro w hSw; obtain ⟨s1, s2⟩ := hSw; have hlk := s2.map.look1 i (by omega); rw [HPP.out] at hlk; clear s1 s2; go_simp
          (try simp only [Act.put, List.setIfInBounds_toArray, List.set_cons_zero, List.set_cons_succ])
          refine take_at (i := 2) (d := some 90) (v := .bool false) rfl rfl (by kernel_rfl) (by kernel_rfl) (by kernel_rfl) (fun _ _ _ h => h) (Or.inl ⟨by kernel_rfl, ?_⟩) hHeld ?_
          · intro w hSw; obtain ⟨s1, s2⟩ := hSw; have hlk := s2.map.look1 i (by omega); rw [HPP.out] at hlk; clear s1 s2; go_simp
          (try simp only [Act.put, List.setIfInBounds_toArray, List.set_cons_zero, List.set_cons_succ])
          refine take_at (i := 3) (d := some 91) (v := pageV P) rfl rfl (by kernel_rfl) (by kernel_rfl) (by kernel_rfl) (fun _ _ _ h => h) (yields_page (by kernel_rfl) (.tmp 12) rfl rfl HPL.out (fun _ hSw => hSw.1.range)) hHeld ?_
          (try simp only [Act.put, List.setIfInBounds_toArray, List.set_cons_zero, List.set_cons_succ])
          refine take_at (i := 4) (d := some 92) (v := .map (some q)) rfl rfl (by kernel_rfl) (by kernel_rfl) (by kernel_rfl) (fun _ _ _ h => h) (Or.inl ⟨by kernel_rfl, ?_⟩) hHeld ?_
          · intro w hSw; obtain ⟨s1, s2⟩ := hSw; have hlk := s2.map.look1 i (by omega); rw [HPP.out] at hlk; clear s1 s2; go_simp
          (try simp only [Act.put, List.setIfInBounds_toArray, List.set_cons_zero, List.set_cons_succ])
          refine take_at (i := 5) (d := some 93) (v := .int .i64 (i : Int)) rfl rfl (by kernel_rfl) (by kernel_rfl) (by kernel_rfl) (fun _ _ _ h => h) (Or.inl ⟨by kernel_rfl, ?_⟩) hHeld ?_
          · intro w hSw; obtain ⟨s1, s2⟩ := hSw; have hlk := s2.map.look1 i (by omega); rw [HPP.out] at hlk; clear s1 s2; go_simp
          (try simp only [Act.put, List.setIfInBounds_toArray, List.set_cons_zero, List.set_cons_succ])
          refine take_at (i := 6) (d := some 94) (v := pageV P) rfl rfl (by kernel_rfl) (by kernel_rfl) (by kernel_rfl) (fun _ _ _ h => h) (Or.inl ⟨by kernel_rfl, ?_⟩) hHeld ?_
          · intro w hSw; obtain ⟨s1, s2⟩ := hSw; have hlk := s2.map.look1 i (by omega); rw [HPP.out] at hlk; clear s1 s2; go_simp
          (try simp only [Act.put, List.setIfInBounds_toArray, List.set_cons_zero, List.set_cons_succ])
          refine take_at (i := 7) (d := some 95) (v := .bool false) rfl rfl (by kernel_rfl) (by kernel_rfl) (by kernel_rfl) (fun _ _ _ h => h) (Or.inl ⟨by kernel_rfl, ?_⟩) hHeld ?_
          · intro w hSw; obtain ⟨s1, s2⟩ := hSw; have hlk := s2.map.look1 i (by omega); rw [HPP.out] at hlk; clear s1 s2; go_simp
          (try simp only [Act.put, List.setIfInBounds_toArray, List.set_cons_zero, List.set_cons_succ])
          refine take_at (i := 8) (d := some 96) (v := .bool false) rfl rfl (by kernel_rfl) (by kernel_rfl) (by kernel_rfl) (fun _ _ _ h => h) (Or.inl ⟨by kernel_rfl, ?_⟩) hHeld ?_
          · intro w hSw; obtain ⟨s1, s2⟩ := hSw; have hlk := s2.map.look1 i (by omega); rw [HPP.out] at hlk; clear s1 s2; go_simp
          (try simp only [Act.put, List.setIfInBounds_toArray, List.set_cons_zero, List.set_cons_succ])
          refine take_at (i := 9) (d := some 97) (v := .bool false) rfl rfl (by kernel_rfl) (by kernel_rfl) (by kernel_rfl) (fun _ _ _ h => h) (Or.inl ⟨by kernel_rfl, ?_⟩) hHeld ?_
          · intro w hSw; obtain ⟨s1, s2⟩ := hSw; have hlk := s2.map.look1 i (by omega); rw [HPP.out] at hlk; clear s1 s2; go_simp
          (try simp only [Act.put, List.setIfInBounds_toArray, List.set_cons_zero, List.set_cons_succ])
          refine take_at (i := 10) (d := some 98) (v := .pointer (some ⟨d, 0, none⟩)) rfl rfl (by kernel_rfl) (by kernel_rfl) (by kernel_rfl) (fun _ _ _ h => h) (Or.inl ⟨by kernel_rfl, ?_⟩) hHeld ?_
          · intro w hSw; obtain ⟨s1, s2⟩ := hSw; have hlk := s2.map.look1 i (by omega); rw [HPP.out] at hlk; clear s1 s2; go_simp
          (try simp only [Act.put, List.setIfInBounds_toArray, List.set_cons_zero, List.set_cons_succ])
          refine take_at (i := 11) (d := some 99) (v := .int .i64 (i : Int)) rfl rfl (by kernel_rfl) (by kernel_rfl) (by kernel_rfl) (fun _ _ _ h => h) (Or.inl ⟨by kernel_rfl, ?_⟩) hHeld ?_
          · intro w hSw; obtain ⟨s1, s2⟩ := hSw; have hlk := s2.map.look1 i (by omega); rw [HPP.out] at hlk; clear s1 s2; go_simp
          (try simp only [Act.put, List.setIfInBounds_toArray, List.set_cons_zero, List.set_cons_succ])
          refine take_at (i := 13) (d := some 101) (v := .map (some q)) rfl rfl (by kernel_rfl) (by kernel_rfl) (by kernel_rfl) (fun _ _ _ h => h) (Or.inl ⟨by kernel_rfl, ?_⟩) hHeld ?_
          · intro w hSw; obtain ⟨s1, s2⟩ := hSw; have hlk := s2.map.look1 i (by omega); rw [HPP.out] at hlk; clear s1 s2; go_simp
          (try simp only [Act.put, List.setIfInBounds_toArray, List.set_cons_zero, List.set_cons_succ])
          refine take_at (i := 14) (d := some 102) (v := .int .i64 (i : Int)) rfl rfl (by kernel_rfl) (by kernel_rfl) (by kernel_rfl) (fun _ _ _ h => h) (Or.inl ⟨by kernel_rfl, ?_⟩) hHeld ?_
          · intro w hSw; obtain ⟨s1, s2⟩ := hSw; have hlk := s2.map.look1 i (by omega); rw [HPP.out] at hlk; clear s1 s2; go_simp
          (try simp only [Act.put, List.setIfInBounds_toArray, List.set_cons_zero, List.set_cons_succ])
          refine take_at (i := 15) (d := some 103) (v := pageV P) rfl rfl (by kernel_rfl) (by kernel_rfl) (by kernel_rfl) (fun _ _ _ h => h) (Or.inl ⟨by kernel_rfl, ?_⟩) hHeld ?_
          · intro w hSw; obtain ⟨s1, s2⟩ := hSw; have hlk := s2.map.look1 i (by omega); rw [HPP.out] at hlk; clear s1 s2; go_simp
          (try simp only [Act.put, List.setIfInBounds_toArray, List.set_cons_zero, List.set_cons_succ])
          refine wpAnyH_ready (rs := [12]) (by kernel_rfl) (by simp) ?_
          refine AllReadyH.cons rfl (fun K hK => ?_) AllReadyH.nil
          go_simp
          (go_at_call 24; refine (HLS.out _ hHeld.2).mono ?_; rintro e W9 ⟨rfl, hb9⟩)
          (try go_wp2_with fail)
          refine hK.out _ _ ⟨hHeld.1.below hb9 hHeld.1.lt, hHeld.2.byBelow hb9⟩ (fun hHeld => ?_)
          clear hK K
          (try simp only [Act.put, List.setIfInBounds_toArray, List.set_cons_zero, List.set_cons_succ])
          refine take_at (i := 16) (d := some 104) (v := .bool false) rfl rfl (by kernel_rfl) (by kernel_rfl) (by kernel_rfl) (fun _ _ _ h => h) (Or.inl ⟨by kernel_rfl, ?_⟩) hHeld ?_
          · intro w hSw; obtain ⟨s1, s2⟩ := hSw; have hlk := s2.map.look1 i (by omega); rw [HPP.out] at hlk; clear s1 s2; go_simp
          (try simp only [Act.put, List.setIfInBounds_toArray, List.set_cons_zero, List.set_cons_succ])
          refine take_at (i := 17) (d := some 105) (v := .bool false) rfl rfl (by kernel_rfl) (by kernel_rfl) (by kernel_rfl) (fun _ _ _ h => h) (Or.inl ⟨by kernel_rfl, ?_⟩) hHeld ?_
          · intro w hSw; obtain ⟨s1, s2⟩ := hSw; have hlk := s2.map.look1 i (by omega); rw [HPP.out] at hlk; clear s1 s2; go_simp
          (try simp only [Act.put, List.setIfInBounds_toArray, List.set_cons_zero, List.set_cons_succ])
          refine wpAnyH_done (by kernel_rfl) ?_ _
          refine NoPanic.normal ?_
          go_wp2
          go_roundw
          case rel => exact ⟨i + 1, by omega, by go_num, hHeld.2⟩
          case measure => simp [intOf]; omega
        · go_wp2
          go_ret
          exact ⟨rfl, HO6.out.live.below⟩

theorem walk (A : Option Addr) (n ca : Nat) (bs : List UInt8) (A2 : Option Addr) (n2 c2 : Nat) (ps : List (List UInt8)) (w : World) (hrow : ByteRow w A n ca bs) (hrow2 : PageRow w A2 n2 ps) :
    Calls Try.prog 6 #[.slice A n ca, .slice A2 n2 c2] w fun e w' => e = .returned (.bool true) ∧ Below w.heap.size w w' := by
  by_cases h : 60 < n
  · exact walk_long A n ca _ w hrow.small h
  · exact walk_main A n ca bs A2 n2 c2 ps w (by omega) hrow hrow2

set_option maxRecDepth 100000 in
theorem lifted (os : Os) (started : os.Started) (H : Type) (enc : TypeId × Value → H) :
    ReturnsInHanded {} Try.checked os 6 .any (Rows.diskOrderSpec.pre6 enc Try.prog Try.f6 Rows.diskOrderRow.domain false) (Rows.diskOrderSpec.post enc Try.prog Try.f6 false true false false) := by
  refine returnsInHanded_of_change (C := Try.checked) own started (by kernel_rfl) Try.func6
    (ChangeSpec.witness6 (enc := enc) (C := Try.checked) false ⟨#[], #[.slice none 0 0, .slice none 0 0], []⟩ 8 (by kernel_rfl) (by kernel_rfl) (by kernel_rfl) (by kernel_rfl)) ?_
  intro W base args ds gs before hval0 hW hcnd _
  have hval : ∀ (j : Nat) t v, Try.f6.params[j]? = some t → args[j]? = some v → Value.okWide Try.prog W .any base t v := hval0
  have hW' := hW
  obtain ⟨p, q, hA0, hV, rfl, hfz, hnd⟩ := hW
  have hA : DataW.TrodAll enc Try.prog W 0 (fun _ => true) true Try.f6.params.toList args.toList ds p := hA0
  rw [Try.params6] at hA hval
  obtain ⟨v0, vs0, d0, ds0, p0, q0, hargs, rfl, rfl, h0, r0⟩ := trodAll_cons hA
  obtain ⟨v1, vs1, d1, ds1, p1, q1, rfl, rfl, rfl, h1, r1⟩ := trodAll_cons r0
  obtain ⟨rfl, rfl, rfl⟩ := trodAll_nil r1
  obtain rfl : args = #[v0, v1] := by cases args; simp_all
  obtain ⟨rfl, rfl⟩ := trodVars_none hV
  have k0 := h0
  have lt0 : ∀ x ∈ p0, x.block < W.heap.size := by obtain ⟨m, hm⟩ := k0; exact DataW.trod_lt m _ _ _ hm
  have k1 := h1
  have lt1 : ∀ x ∈ p1, x.block < W.heap.size := by obtain ⟨m, hm⟩ := k1; exact DataW.trod_lt m _ _ _ hm
  obtain ⟨A0, n0, c0, bs0, rfl, w0⟩ := open_bytes (hval 0 32 v0 rfl rfl) h0
  obtain ⟨A1, m1, c1, ps1, rfl, w1⟩ := open_pages (hval 1 46 v1 rfl rfl) h1
  clear hA0 hval0
  refine (walk A0 n0 c0 bs0 A1 m1 c1 ps1 W w0 w1).mono fun e W' ⟨he, bel⟩ => ?_
  subst he
  exact ⟨_, rfl, _, _, _, [], _, [], hW', trodAll_mk1 (shut_bool Try.underlying4 _), (trodAll_cons_mk (Below.trod laidOut (by kernel_rfl) (of_decide_eq_true (by kernel_rfl)) k0 bel lt0) (trodAll_cons_mk (Below.trod laidOut (by kernel_rfl) (of_decide_eq_true (by kernel_rfl)) k1 bel lt1) trodAll_mk0)), rfl, bel.frame _, fun h => by cases h⟩

theorem over : Rows.diskOrderRow.holds Try.pinned (OpenSpec.ofChange Rows.diskOrderSpec) :=
  OpenClaim.holds_of_wide 6 Try.f6 rfl rfl rfl rfl rfl rfl rfl ⟨rfl, rfl, rfl, rfl, rfl⟩ rfl rfl rfl rfl rfl (by kernel_rfl) Try.func6 (by kernel_rfl)
    (of_decide_eq_true (by kernel_rfl)) (by unfold Func.isWrapper; first | (rw [if_pos (by decide +kernel)]; kernel_rfl) | (rw [if_neg (by decide +kernel)]; exact ⟨rfl, rfl⟩))
    (fun os started H enc _ => lifted os started H enc)

/-- THE STATEMENT -/
theorem proved : Rows.DiskOrderSaid := over
#print axioms proved
end Go.Proofs.Ytaiikpfgnamgiaa.diskOrder
