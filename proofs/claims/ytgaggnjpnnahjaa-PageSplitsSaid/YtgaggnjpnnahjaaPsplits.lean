/-
  Proved: PageSplits returns true for every text and every row of pages: bytes in pages are these bytes, filled up with 0; together they are them again.
  Conditions: none beside the statement's own.
-/
import Derived.Test.YtgaggnjpnnahjaaPawake
import Derived.Test.YtgaggnjpnnahjaaPchunk
import Derived.Deep.Slices
namespace Go.Proofs.Ytgaggnjpnnahjaa.pageSplits
open Go.ChangeShapes Go.WideShapes Go.ChangeAt Go.RowKit
open Go.ChangeMaps (open_string shut_string)

/-- what stands in memory at the last loop: the pages of the text, the pages that came in, and those that they became -/
structure Stand (w0 : World) (A : Option Addr) (m : Nat) (ls : List (List UInt8)) (B n : Nat) (got : List (List UInt8)) (C : Nat) (W : World) : Prop where
  mine : PageRow W (some ⟨B, 0, none⟩) n got
  came : PageRow W A m ls
  again : PageRow W (some ⟨C, 0, none⟩) m ls
  below : Below w0.heap.size w0 W
theorem PageRow.drew {w : World} {A : Option Addr} {n : Nat} {ps : List (List UInt8)} (h : PageRow w A n ps) : PageRow w.drew A n ps where
  len := h.len
  small := h.small
  size := h.size
  cells := fun hn => by
    obtain ⟨b, off, rfl, hlt, hc⟩ := h.cells hn
    exact ⟨b, off, rfl, hlt, fun i hi => (World.rangeAt_drew ..).2 (hc i hi)⟩
theorem PageRow.kept {w w' : World} {A : Option Addr} {n : Nat} {ps : List (List UInt8)} (h : PageRow w A n ps) (hb : Below w.heap.size w w') : PageRow w' A n ps where
  len := h.len
  small := h.small
  size := h.size
  cells := fun hn => by
    obtain ⟨b, off, rfl, hlt, hc⟩ := h.cells hn
    exact ⟨b, off, rfl, Nat.lt_of_lt_of_le hlt hb.size, fun i hi j v hv => (hb.cell (p := ⟨b, off + i * 64 + j, none⟩) hlt).trans (hc i hi j v hv)⟩
theorem Stand.drew {w0 : World} {A : Option Addr} {m : Nat} {ls : List (List UInt8)} {B n : Nat} {got : List (List UInt8)} {C : Nat} {W : World} (h : Stand w0 A m ls B n got C W) : Stand w0 A m ls B n got C W.drew :=
  ⟨PageRow.drew h.mine, PageRow.drew h.came, PageRow.drew h.again, h.below.drew⟩

set_option maxHeartbeats 1000000 in
theorem walk_long (s : ByteArray) (A : Option Addr) (m c : Nat) (w : World) (hs : s.size ≤ maxLen) (h : 2000 < s.size) :
    Calls Try.prog 6 #[.string s, .slice A m c] w fun e w' => e = .returned (.bool true) ∧ Below w.heap.size w w' := by
  unfold maxLen at hs
  go_enter Try.func6, Try.ntmps6
  go_wp2_with fail
  refine (awake_any w).mono ?_
  rintro e w1 ⟨rfl, hb⟩
  go_wp2_with fail
  go_ret
  exact ⟨rfl, hb⟩
set_option maxHeartbeats 1000000 in
theorem walk_many (s : ByteArray) (A : Option Addr) (m c : Nat) (w : World) (hs : s.size ≤ 2000) (hm : m ≤ maxLen) (h : 40 < m) :
    Calls Try.prog 6 #[.string s, .slice A m c] w fun e w' => e = .returned (.bool true) ∧ Below w.heap.size w w' := by
  unfold maxLen at hm
  have hs' : ¬ 2000 < s.size := by omega
  go_enter Try.func6, Try.ntmps6
  go_wp2_with fail
  refine (awake_any w).mono ?_
  rintro e w1 ⟨rfl, hb⟩
  go_wp2_with fail
  go_ret
  exact ⟨rfl, hb⟩

theorem allz_one (s : ByteArray) (k : Nat) (h : k < s.size) : allz (s.data.toList.take (k + 1)) = (allz (s.data.toList.take k) && s[k] == 0) := by
  rw [List.take_succ_eq_append_getElem (by simpa using h)]
  unfold allz
  rw [List.all_append]
  simp only [List.all_cons, List.all_nil, Bool.and_true]
  rfl

set_option maxHeartbeats 4000000 in
set_option maxRecDepth 100000 in
theorem walk_main (s : ByteArray) (A : Option Addr) (m c : Nat) (ls : List (List UInt8)) (w : World) (hs : s.size ≤ 2000) (hm : m ≤ 40) (hrow : PageRow w A m ls) :
    Calls Try.prog 6 #[.string s, .slice A m c] w fun e w' => e = .returned (.bool true) ∧ Below w.heap.size w w' := by
  obtain ⟨n, hn⟩ : ∃ n, n = (s.size + 63) / 64 := ⟨_, rfl⟩
  have hq : ((s.size : Int) + 63) / 64 = (n : Int) := by omega
  have hn32 : n ≤ 32 := by omega
  have hbl : s.data.toList.length = s.size := by simp
  have hpl : (padded n s.data.toList).length = n * 64 := padded_length n _ (by omega)
  have HSp := Lib.hid (fun (w : World) => split_any s n w hn (by omega))
  have HZ := Lib.hid (zero_chunks n s.data.toList (by omega))
  have hcf : (chunks n (padded n s.data.toList)).flatten = padded n s.data.toList := chunks_flat n _ hpl
  obtain ⟨t, ht⟩ : ∃ t, t = strOf (padded n s.data.toList) := ⟨_, rfl⟩
  have htz : (t.size : Int) = 64 * (n : Int) := by rw [ht, strOf_size, hpl]; omega
  have hle : s.size ≤ t.size := by omega
  have hx : t.extract 0 s.size = s := by
    rw [ht, padded_eq]
    apply ByteArray.ext
    apply Array.ext'
    rw [ByteArray.data_extract, Array.toList_extract, List.extract_eq_take_drop]
    simp [strOf]
  have HT0 : Hid (∀ k (hk : k < t.size), s.size ≤ k → t[k] = 0) := Lib.hid (fun k hk hge => by
    have e1 : t.data.toList = s.data.toList ++ List.replicate (n * 64 - s.data.toList.length) 0 := by rw [ht, ← padded_eq]; simp [strOf]
    have e2 : t.data.toList[k]? = some t[k] := by rw [List.getElem?_eq_getElem (by simpa using hk)]; rfl
    rw [e1, List.getElem?_append_right (by omega), List.getElem?_replicate] at e2
    split at e2
    · exact (Option.some.inj e2).symm
    · cases e2)
  have HJ : Hid (∀ (W : World) (B : Nat), PageRow W (some ⟨B, 0, none⟩) n (chunks n (padded n s.data.toList)) → Calls Try.prog 17 #[.slice (some ⟨B, 0, none⟩) n n] W fun e w' => e = .returned (.string t) ∧ Below W.heap.size W w') := Lib.hid (fun W B h => by
    have := join_any (some ⟨B, 0, none⟩) n n _ W h (by omega)
    rw [hcf, ← ht] at this
    exact this)
  clear hpl hbl ht hcf hn
  generalize chunks n (padded n s.data.toList) = got at HSp HZ HJ
  have HROW := Lib.hid hrow
  clear hrow
  have hs' : ¬ 2000 < s.size := by omega
  have hm' : ¬ 40 < m := by omega
  go_enter Try.func6, Try.ntmps6
  go_wp2_with fail
  refine (awake_any w).mono ?_
  rintro e w1 ⟨rfl, hb1⟩
  go_wp2_with fail
  refine (HSp.out w1).mono ?_
  rintro e w2 ⟨rfl, hr2, hz2, hb2⟩
  have HR2 := Lib.hid hr2
  clear hr2
  go_wp2_with fail
  refine (HJ.out w2 w1.heap.size HR2.out).mono ?_
  rintro e w3 ⟨rfl, hb3⟩
  go_wp2_with fail
  have ht2048 : t.size ≤ 2048 := by omega
  clear htz hx hq hs' hm'
  have HB3 := Lib.hid ((hb1.trans (hb2.mono hb1.size)).trans (hb3.mono (Nat.le_trans hb1.size hb2.size)))
  have HM3 := Lib.hid (PageRow.kept HR2.out hb3)
  have HC3 := Lib.hid (PageRow.kept HROW.out HB3.out)
  go_loop [8] (fun i => ∃ k : Nat, s.size ≤ k ∧ k ≤ t.size ∧ i = .int .i64 k) (fun i => t.size - (intOf i).toNat)
  case atStart => exact ⟨s.size, Nat.le_refl _, hle, rfl⟩
  case round =>
    obtain ⟨k, hk1, hk2, rfl⟩ := hrel
    by_cases hlt : k < t.size
    · have h0 := HT0.out k hlt hk1
      go_wp2
      go_round
      case rel => exact ⟨k + 1, by omega, by omega, by go_num⟩
      case measure => simp [intOf]; omega
    · go_wp2_with fail
      go_loop [7, 9] (fun z i => ∃ k : Nat, k ≤ s.size ∧ i = .int .i64 k ∧ z = .bool (allz (s.data.toList.take k))) (fun _ i => s.size - (intOf i).toNat)
      case atStart => exact ⟨0, Nat.zero_le _, rfl, rfl⟩
      case round =>
        clear hk1 hk2 hlt
        obtain ⟨k, hk, rfl, rfl⟩ := hrel
        by_cases hlt : k < s.size
        · have HA := Lib.hid (allz_one s k hlt)
          cases hz : allz (s.data.toList.take k)
          · rw [hz] at HA
            clear hz
            go_wp2
            go_round
            case rel => exact ⟨k + 1, by omega, by go_num, by rw [HA.out]; rfl⟩
            case measure => simp [intOf]; omega
          · rw [hz, Bool.true_and] at HA
            clear hz
            by_cases hc : s[k] = 0
            · have HA1 : Hid (allz (s.data.toList.take (k + 1)) = true) := Lib.hid (by rw [HA.out, hc]; rfl)
              clear HA
              go_wp2
              go_round
              case rel => exact ⟨k + 1, by omega, by go_num, by rw [HA1.out]⟩
              case measure => simp [intOf]; omega
            · have HA1 : Hid (allz (s.data.toList.take (k + 1)) = false) := Lib.hid (by rw [HA.out]; simpa using hc)
              have hc1 : s[k].toNat ≠ 0 := fun e => hc (UInt8.toNat_inj.1 (by simpa using e))
              clear HA hc
              go_wp2
              go_round
              case rel => exact ⟨k + 1, by omega, by go_num, by rw [HA1.out]; exact congrArg Value.bool (beq_eq_false_iff_ne.2 (by omega))⟩
              case measure => simp [intOf]; omega
        · have HK : s.data.toList.take k = s.data.toList := List.take_of_length_le (by simp; omega)
          rw [HK]
          clear HK
          go_wp2_with fail
          refine (join_any A m c ls w3 HC3.out (by omega)).mono ?_
          rintro e w4 ⟨rfl, hb4⟩
          go_wp2_with fail
          refine (split_joined ls m w4 HROW.out.len HROW.out.size (by omega)).mono ?_
          rintro e w5 ⟨rfl, hr5, hz5, hb5⟩
          have hb35 := hb4.trans (hb5.mono hb4.size)
          have HST : Hid (Stand w A m ls w1.heap.size n got w4.heap.size w5) := Lib.hid ⟨PageRow.kept HM3.out hb35, PageRow.kept HC3.out hb35, hr5, HB3.out.trans (hb35.mono HB3.out.size)⟩
          clear hr5 hz5 hb35 hb5 hb4 hb3 hb2 hb1 hz2 HJ HSp HC3 HM3 HR2 HB3 HT0
          generalize w4.heap.size = C at HST ⊢
          go_wp2_with fail
          go_loopw [79] (fun i wr => ∃ k : Nat, k ≤ m ∧ i = .int .i64 k ∧ Stand w A m ls w1.heap.size n got C wr) (fun i _ => m - (intOf i).toNat)
          case atStart => exact ⟨0, Nat.zero_le _, rfl, HST.out⟩
          case round =>
            clear hk hlt
            obtain ⟨k, hk, rfl, hst⟩ := hrel
            have HS := Lib.hid hst
            clear hst HST
            by_cases hlt : k < m
            · obtain ⟨b, off, rfl, _, hc⟩ := HS.out.came.cells (by omega)
              obtain ⟨b', off', he, _, hc'⟩ := HS.out.again.cells (by omega)
              obtain ⟨rfl, rfl⟩ : C = b' ∧ 0 = off' := by injection he with he; injection he with h1 h2; exact ⟨h1, h2⟩
              have HQ1 : Hid (wr.drew.rangeAt C (k * 64) (byteVals (ls.getD k []))) := Lib.hid (by have := hc' k hlt; rw [Nat.zero_add] at this; exact (World.rangeAt_drew ..).2 this)
              have HQ2 : Hid (wr.drew.rangeAt b (off + k * 64) (byteVals (ls.getD k []))) := Lib.hid ((World.rangeAt_drew ..).2 (hc k hlt))
              have hp := HROW.out.size k hlt
              have hi : (Try.prog.info? 23).map (·.size) = some (byteVals (ls.getD k [])).length := by rw [page_info, byteVals_length, hp]
              have HE := fun (w : World) => run_eqPages_same w (ls.getD k []) hp
              clear hc hc' he hp
              generalize ls.getD k [] = p at HQ1 HQ2 hi HE
              go_wp2_with fail
              refine wp_region_noPanic ?_
              refine wp_region_held_drew (S := (fun w' => w' = wr.drew)) (by kernel_rfl) rfl (fun hHeld => ?_)
              refine take_at (i := 0) (d := some 82) (v := .int .i64 (k : Int)) rfl rfl (by kernel_rfl) (by kernel_rfl) (by kernel_rfl) (fun _ _ _ h => h) (Or.inl ⟨by kernel_rfl, ?_⟩) hHeld ?_
              · intro w hSw; (try dsimp only at hSw); go_simp
              (try simp only [Act.put, List.setIfInBounds_toArray, List.set_cons_zero, List.set_cons_succ])
              refine take_at (i := 1) (d := some 83) (v := .slice (some ⟨C, 0, none⟩) m m) rfl rfl (by kernel_rfl) (by kernel_rfl) (by kernel_rfl) (fun _ _ _ h => h) (Or.inl ⟨by kernel_rfl, ?_⟩) hHeld ?_
              · intro w hSw; (try dsimp only at hSw); go_simp
              (try simp only [Act.put, List.setIfInBounds_toArray, List.set_cons_zero, List.set_cons_succ])
              refine take_at (i := 2) (d := some 84) (v := .int .i64 (m : Int)) rfl rfl (by kernel_rfl) (by kernel_rfl) (by kernel_rfl) (fun _ _ _ h => h) (Or.inl ⟨by kernel_rfl, ?_⟩) hHeld ?_
              · intro w hSw; (try dsimp only at hSw); go_simp
              (try simp only [Act.put, List.setIfInBounds_toArray, List.set_cons_zero, List.set_cons_succ])
              refine take_at (i := 3) (d := some 85) (v := .bool false) rfl rfl (by kernel_rfl) (by kernel_rfl) (by kernel_rfl) (fun _ _ _ h => h) (Or.inl ⟨by kernel_rfl, ?_⟩) hHeld ?_
              · intro w hSw; (try dsimp only at hSw); go_simp
              (try simp only [Act.put, List.setIfInBounds_toArray, List.set_cons_zero, List.set_cons_succ])
              refine take_at (i := 4) (d := some 86) (v := .bool false) rfl rfl (by kernel_rfl) (by kernel_rfl) (by kernel_rfl) (fun _ _ _ h => h) (Or.inl ⟨by kernel_rfl, ?_⟩) hHeld ?_
              · intro w hSw; (try dsimp only at hSw); go_simp
              (try simp only [Act.put, List.setIfInBounds_toArray, List.set_cons_zero, List.set_cons_succ])
              refine take_at (i := 5) (d := some 87) (v := .slice (some ⟨C, 0, none⟩) m m) rfl rfl (by kernel_rfl) (by kernel_rfl) (by kernel_rfl) (fun _ _ _ h => h) (Or.inl ⟨by kernel_rfl, ?_⟩) hHeld ?_
              · intro w hSw; (try dsimp only at hSw); go_simp
              (try simp only [Act.put, List.setIfInBounds_toArray, List.set_cons_zero, List.set_cons_succ])
              refine take_at (i := 6) (d := some 88) (v := .int .i64 (k : Int)) rfl rfl (by kernel_rfl) (by kernel_rfl) (by kernel_rfl) (fun _ _ _ h => h) (Or.inl ⟨by kernel_rfl, ?_⟩) hHeld ?_
              · intro w hSw; (try dsimp only at hSw); go_simp
              (try simp only [Act.put, List.setIfInBounds_toArray, List.set_cons_zero, List.set_cons_succ])
              refine take_at (i := 7) (d := some 89) (v := .pointer (some ⟨C, k * 64, none⟩)) rfl rfl (by kernel_rfl) (by kernel_rfl) (by kernel_rfl) (fun _ _ _ h => h) (Or.inl ⟨by kernel_rfl, ?_⟩) hHeld ?_
              · intro w hSw; (try dsimp only at hSw); go_simp
              (try simp only [Act.put, List.setIfInBounds_toArray, List.set_cons_zero, List.set_cons_succ])
              refine take_at (i := 8) (d := some 90) (v := .agg (byteVals p).toArray) rfl rfl (by kernel_rfl) (by kernel_rfl) (by kernel_rfl) (fun _ _ _ h => h) (yieldsIf_load_mid (by kernel_rfl) _ _ rfl _ _ rfl (byteVals p) _ (fun _ h => by cases (show _ = wr.drew from h); exact HQ1.out) Try.underlying23 rfl hi) hHeld ?_
              (try simp only [Act.put, List.setIfInBounds_toArray, List.set_cons_zero, List.set_cons_succ])
              refine take_at (i := 9) (d := some 91) (v := .slice (some ⟨b, off, none⟩) m c) rfl rfl (by kernel_rfl) (by kernel_rfl) (by kernel_rfl) (fun _ _ _ h => h) (Or.inl ⟨by kernel_rfl, ?_⟩) hHeld ?_
              · intro w hSw; (try dsimp only at hSw); go_simp
              (try simp only [Act.put, List.setIfInBounds_toArray, List.set_cons_zero, List.set_cons_succ])
              refine take_at (i := 10) (d := some 92) (v := .int .i64 (k : Int)) rfl rfl (by kernel_rfl) (by kernel_rfl) (by kernel_rfl) (fun _ _ _ h => h) (Or.inl ⟨by kernel_rfl, ?_⟩) hHeld ?_
              · intro w hSw; (try dsimp only at hSw); go_simp
              (try simp only [Act.put, List.setIfInBounds_toArray, List.set_cons_zero, List.set_cons_succ])
              refine take_at (i := 11) (d := some 93) (v := .pointer (some ⟨b, off + k * 64, none⟩)) rfl rfl (by kernel_rfl) (by kernel_rfl) (by kernel_rfl) (fun _ _ _ h => h) (Or.inl ⟨by kernel_rfl, ?_⟩) hHeld ?_
              · intro w hSw; (try dsimp only at hSw); go_simp
              (try simp only [Act.put, List.setIfInBounds_toArray, List.set_cons_zero, List.set_cons_succ])
              refine take_at (i := 12) (d := some 94) (v := .agg (byteVals p).toArray) rfl rfl (by kernel_rfl) (by kernel_rfl) (by kernel_rfl) (fun _ _ _ h => h) (yieldsIf_load_mid (by kernel_rfl) _ _ rfl _ _ rfl (byteVals p) _ (fun _ h => by cases (show _ = wr.drew from h); exact HQ2.out) Try.underlying23 rfl hi) hHeld ?_
              (try simp only [Act.put, List.setIfInBounds_toArray, List.set_cons_zero, List.set_cons_succ])
              refine take_at (i := 13) (d := some 95) (v := .bool false) rfl rfl (by kernel_rfl) (by kernel_rfl) (by kernel_rfl) (fun _ _ _ h => h) (Or.inl ⟨by kernel_rfl, ?_⟩) hHeld ?_
              · intro w hSw; (try dsimp only at hSw); go_simp
              (try simp only [Act.put, List.setIfInBounds_toArray, List.set_cons_zero, List.set_cons_succ])
              refine take_at (i := 14) (d := some 96) (v := .bool false) rfl rfl (by kernel_rfl) (by kernel_rfl) (by kernel_rfl) (fun _ _ _ h => h) (Or.inl ⟨by kernel_rfl, ?_⟩) hHeld ?_
              · intro w hSw; (try dsimp only at hSw); go_simp
              (try simp only [Act.put, List.setIfInBounds_toArray, List.set_cons_zero, List.set_cons_succ])
              refine wpAnyH_done (by kernel_rfl) ?_ _
              refine NoPanic.normal ?_
              go_wp2_with fail
              go_roundw
              case rel => exact ⟨k + 1, by omega, by go_num, HS.out.drew⟩
              case measure => simp [intOf]; omega
            · have HZA := Lib.hid (zero_any (some ⟨w1.heap.size, 0, none⟩) n n got wr HS.out.mine (by omega))
              go_wp2_with (go_at_call 18; refine HZA.out.mono ?_; rintro e w6 ⟨rfl, hb6⟩)
              go_ret
              exact ⟨ret_bool (by rw [HZ.out]; simp), HS.out.below.trans (hb6.mono HS.out.below.size)⟩

theorem walk (s : ByteArray) (A : Option Addr) (m c : Nat) (ls : List (List UInt8)) (w : World) (hs : s.size ≤ maxLen) (hrow : PageRow w A m ls) :
    Calls Try.prog 6 #[.string s, .slice A m c] w fun e w' => e = .returned (.bool true) ∧ Below w.heap.size w w' := by
  by_cases h1 : 2000 < s.size
  · exact walk_long s A m c w hs h1
  · by_cases h2 : 40 < m
    · exact walk_many s A m c w (by omega) hrow.small h2
    · exact walk_main s A m c ls w (by omega) (by omega) hrow

theorem list_of {α : Type} (P : Nat → α → Prop) : ∀ (n : Nat), (∀ i, i < n → ∃ a, P i a) → ∃ l : List α, l.length = n ∧ ∀ i, i < n → ∃ a, l[i]? = some a ∧ P i a
  | 0, _ => ⟨[], rfl, fun i hi => by omega⟩
  | n + 1, h => by
    obtain ⟨l, hl, hp⟩ := list_of P n (fun i hi => h i (by omega))
    obtain ⟨a, ha⟩ := h n (by omega)
    refine ⟨l ++ [a], by simp [hl], fun i hi => ?_⟩
    rcases Nat.lt_or_ge i n with hlt | hge
    · obtain ⟨x, hx, hpx⟩ := hp i hlt
      exact ⟨x, by rw [List.getElem?_append_left (by omega)]; exact hx, hpx⟩
    · obtain rfl : i = n := by omega
      exact ⟨a, by rw [List.getElem?_append_right (by omega), hl, Nat.sub_self]; rfl, ha⟩
theorem open_pages {H : Type} {enc : TypeId × Value → H} {W : World} {base : Nat} {v : Value} {d : DataW H} {p : List MemPlace} (hv : Value.okWide Try.prog W .any base 33 v)
    (h : DataW.Trod enc Try.prog W 0 (fun _ => true) true 33 v d p) : ∃ A n c ps, v = .slice A n c ∧ PageRow W A n ps := by
  obtain ⟨A, n, c, rfl⟩ := okWide_slice Try.underlying33 hv
  obtain ⟨fuel, hf⟩ := h
  rcases Go.Deep.open_slice Try.underlying33 hf with ⟨hcs, _⟩ | ⟨a, len, cap, m, k, D, Pl, hcs, _, hl, hm, hmm, _, hi⟩
  · simp [Value.cells] at hcs
    obtain ⟨rfl, rfl, rfl⟩ := hcs
    exact ⟨_, _, _, [], rfl, rfl, by unfold maxLen; omega, fun i hi => by omega, fun hn => by omega⟩
  · simp [Value.cells] at hcs
    obtain ⟨rfl, rfl, rfl⟩ := hcs
    simp only [if_true] at hmm
    have each : ∀ i, i < n → ∃ q : List UInt8, q.length = 64 ∧ ∀ j u, (byteVals q)[j]? = some u → W.cell? ((a.add (i * 64)).add j) = some u := by
      intro i hin
      obtain ⟨cs, hc, ht⟩ := hi i (by omega)
      rw [cellsP] at hc
      obtain ⟨_, hcl, hat⟩ := World.cells?_some hc
      obtain ⟨l, hll, hl'⟩ := page_cells ht
      refine ⟨l, hll, fun j u hu => ?_⟩
      rw [← hl'] at hu
      have hj : j < 64 := by have := (List.getElem?_eq_some_iff.1 hu).1; omega
      rw [hat j hj, hu]
    obtain ⟨ps, hpl, hps⟩ := list_of _ n each
    have hget : ∀ i, i < n → (ps.getD i []).length = 64 ∧ ∀ j u, (byteVals (ps.getD i []))[j]? = some u → W.cell? ((a.add (i * 64)).add j) = some u := by
      intro i hin
      obtain ⟨q, hq, h1⟩ := hps i hin
      rw [List.getD_eq_getElem?_getD, hq]; exact h1
    refine ⟨_, _, _, ps, rfl, hpl, by omega, fun i hin => (hget i hin).1, fun hn => ?_⟩
    obtain ⟨b, off, spot⟩ := a
    obtain ⟨hz0, hc0⟩ := hget 0 hn
    have hcell0 := hc0 0 _ (byteVals_at _ 0 (by omega))
    have hspot : spot = none := by simpa [Addr.add] using World.cell?_spot hcell0
    subst hspot
    refine ⟨b, off, rfl, ?_, fun i hin j u hu => ?_⟩
    · rw [Addr.add_mid, Addr.add_mid] at hcell0
      exact World.block_lt_of_cell? W _ hcell0
    · have := (hget i hin).2 j u hu
      rw [Addr.add_mid, Addr.add_mid] at this
      exact this

set_option maxRecDepth 100000 in
theorem lifted (os : Os) (started : os.Started) (H : Type) (enc : TypeId × Value → H) :
    ReturnsInHanded {} Try.checked os 6 .any (Rows.pageSplitsSpec.pre6 enc Try.prog Try.f6 Rows.pageSplitsRow.domain false) (Rows.pageSplitsSpec.post enc Try.prog Try.f6 false true false false) := by
  refine returnsInHanded_of_change (C := Try.checked) own started (by kernel_rfl) Try.func6
    (ChangeSpec.witness6 (enc := enc) (C := Try.checked) false ⟨#[], #[.string ByteArray.empty, .slice none 0 0], []⟩ 8 (by kernel_rfl) (by kernel_rfl) (by kernel_rfl) (by kernel_rfl)) ?_
  intro W base args ds gs before hval0 hW hcnd _
  have hval : ∀ (j : Nat) t v, Try.f6.params[j]? = some t → args[j]? = some v → Value.okWide Try.prog W .any base t v := hval0
  have hW' := hW
  obtain ⟨p, q, hA0, hV, rfl, hfz, hnd⟩ := hW
  have hA : DataW.TrodAll enc Try.prog W 0 (fun _ => true) true Try.f6.params.toList args.toList ds p := hA0
  rw [Try.params6] at hA hval
  obtain ⟨v0, vs0, d0, ds0, p0, q0, hargs, rfl, rfl, h0, r0⟩ := trodAll_cons hA
  obtain ⟨v1, vs1, d1, ds1, p1, q1, rfl, rfl, rfl, h1, r1⟩ := trodAll_cons r0
  obtain ⟨rfl, rfl, rfl⟩ := trodAll_nil r1
  obtain rfl : args = #[v0, v1] := by cases args; simp_all
  obtain ⟨rfl, rfl⟩ := trodVars_none hV
  have k0 := h0
  have lt0 : ∀ x ∈ p0, x.block < W.heap.size := by obtain ⟨m, hm⟩ := k0; exact DataW.trod_lt m _ _ _ hm
  have k1 := h1
  have lt1 : ∀ x ∈ p1, x.block < W.heap.size := by obtain ⟨m, hm⟩ := k1; exact DataW.trod_lt m _ _ _ hm
  obtain ⟨x0, rfl, ed0, ep0, w0⟩ := open_string Try.underlying9 (hval 0 9 v0 rfl rfl) h0
  obtain ⟨A1, m1, c1, ps1, rfl, w1⟩ := open_pages (hval 1 33 v1 rfl rfl) h1
  clear hA0 hval0
  refine (walk x0 A1 m1 c1 ps1 W w0 w1).mono fun e W' ⟨he, bel⟩ => ?_
  subst he
  exact ⟨_, rfl, _, _, _, [], _, [], hW', trodAll_mk1 (shut_bool Try.underlying4 _), (trodAll_cons_mk (Below.trod laidOut (by kernel_rfl) (of_decide_eq_true (by kernel_rfl)) k0 bel lt0) (trodAll_cons_mk (Below.trod laidOut (by kernel_rfl) (of_decide_eq_true (by kernel_rfl)) k1 bel lt1) trodAll_mk0)), rfl, bel.frame _, fun h => by cases h⟩

theorem over : Rows.pageSplitsRow.holds Try.pinned (OpenSpec.ofChange Rows.pageSplitsSpec) :=
  OpenClaim.holds_of_wide 6 Try.f6 rfl rfl rfl rfl rfl rfl rfl ⟨rfl, rfl, rfl, rfl, rfl⟩ rfl rfl rfl rfl rfl (by kernel_rfl) Try.func6 (by kernel_rfl)
    (of_decide_eq_true (by kernel_rfl)) (by unfold Func.isWrapper; first | (rw [if_pos (by decide +kernel)]; kernel_rfl) | (rw [if_neg (by decide +kernel)]; exact ⟨rfl, rfl⟩))
    (fun os started H enc _ => lifted os started H enc)

/-- THE STATEMENT -/
theorem proved : Rows.PageSplitsSaid := over
#print axioms proved
end Go.Proofs.Ytgaggnjpnnahjaa.pageSplits
