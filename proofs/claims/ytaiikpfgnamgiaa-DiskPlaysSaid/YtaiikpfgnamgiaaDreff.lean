/-
  The contract of the reference's Flush.
-/
import Derived.Test.YtaiikpfgnamgiaaDrefn
namespace Go.Proofs.Ytaiikpfgnamgiaa
open Go.RowKit
open Dk (zeros zeros_length)

/-! ### a list that is turned from its head on -/
def upto {α : Type} (n k : Nat) (f g : Nat → α) : List α := (List.range n).map fun i => if i < k then f i else g i
theorem upto_length {α : Type} (n k : Nat) (f g : Nat → α) : (upto n k f g).length = n := by unfold upto; simp
theorem upto_at {α : Type} (n k : Nat) (f g : Nat → α) (i : Nat) (hi : i < n) : (upto n k f g)[i]? = some (if i < k then f i else g i) := by
  unfold upto
  rw [List.getElem?_map, List.getElem?_range hi]; rfl
theorem upto_succ {α : Type} (n k : Nat) (f g : Nat → α) (hk : k < n) : upto n (k + 1) f g = (upto n k f g).set k (f k) := by
  apply List.ext_getElem?
  intro i
  rw [List.getElem?_set]
  by_cases hi : i < n
  · rw [upto_at _ _ _ _ i hi]
    by_cases e : k = i
    · subst e
      rw [if_pos (show k < k + 1 by omega), if_pos rfl, if_pos (by rw [upto_length]; exact hk)]
    · rw [if_neg e, upto_at _ _ _ _ i hi]
      by_cases h : i < k
      · rw [if_pos h, if_pos (by omega)]
      · rw [if_neg h, if_neg (by omega)]
  · rw [List.getElem?_eq_none (by rw [upto_length]; omega), if_neg (by omega), List.getElem?_eq_none (by rw [upto_length]; omega)]
theorem upto_same {α : Type} (n k : Nat) (f g : Nat → α) (h : f k = g k) : upto n (k + 1) f g = upto n k f g := by
  unfold upto
  apply List.map_congr_left
  intro i _
  by_cases e : i < k
  · rw [if_pos e, if_pos (by omega)]
  · by_cases e2 : i = k
    · subst e2
      rw [if_pos (by omega), if_neg (by omega), h]
    · rw [if_neg e, if_neg (by omega)]
theorem upto_zero {α : Type} (n : Nat) (f g : Nat → α) (l : List α) (hl : l.length = n) (hg : ∀ i, i < n → l[i]? = some (g i)) : upto n 0 f g = l := by
  apply List.ext_getElem?
  intro i
  by_cases hi : i < n
  · rw [upto_at _ _ _ _ i hi, if_neg (by omega), hg i hi]
  · rw [List.getElem?_eq_none (by rw [upto_length]; omega), List.getElem?_eq_none (by omega)]
theorem upto_all {α : Type} (n : Nat) (f g : Nat → α) : upto n n f g = (List.range n).map f := by
  unfold upto
  apply List.map_congr_left
  intro i hi
  rw [if_pos (List.mem_range.1 hi)]
theorem last_at {s : Dk.St} {i : Nat} (hi : i < s.last.length) : s.last[i]? = some (Dk.lastAt s i) := by unfold Dk.lastAt; rw [List.getD_eq_getElem?_getD, List.getElem?_eq_getElem hi]; rfl
theorem cache_at {s : Dk.St} (h : s.Ok) {i : Nat} (hi : i < s.last.length) : s.cache[i]? = some (Dk.cacheAt s i) := by unfold Dk.cacheAt; rw [List.getD_eq_getElem?_getD, List.getElem?_eq_getElem (by rw [h.same]; exact hi)]; rfl

/-- a flush, page by page -/
def flushTo (s : Dk.St) (k : Nat) : Dk.St := { s with last := upto s.last.length k (Dk.nowAt s) (Dk.lastAt s), cache := upto s.last.length k (fun _ => none) (Dk.cacheAt s) }
theorem flushTo_zero {s : Dk.St} (h : s.Ok) : flushTo s 0 = s := by
  unfold flushTo
  rw [upto_zero _ _ _ s.last rfl (fun i hi => last_at hi), upto_zero _ _ _ s.cache h.same (fun i hi => cache_at h hi)]
theorem flushTo_end (s : Dk.St) : flushTo s s.last.length = Dk.flushed s := by
  unfold flushTo Dk.flushed
  have e : (List.range s.last.length).map (fun _ => (none : Option (List UInt8))) = List.replicate s.last.length none := by simp [List.map_const']
  rw [upto_all, upto_all, e]
theorem flushTo_len (s : Dk.St) (k : Nat) : (flushTo s k).last.length = s.last.length := upto_length _ _ _ _
theorem flushTo_clen (s : Dk.St) (k : Nat) : (flushTo s k).cache.length = s.last.length := upto_length _ _ _ _
theorem flushTo_cache {s : Dk.St} {k : Nat} (hk : k < s.last.length) : Dk.cacheAt (flushTo s k) k = Dk.cacheAt s k := by
  show (upto s.last.length k (fun _ => none) (Dk.cacheAt s)).getD k none = _
  rw [List.getD_eq_getElem?_getD, upto_at _ _ _ _ k hk, if_neg (by omega)]; rfl
theorem flushTo_none {s : Dk.St} {k : Nat} (h : Dk.cacheAt s k = none) : flushTo s (k + 1) = flushTo s k := by
  unfold flushTo
  rw [upto_same _ _ _ _ (by unfold Dk.nowAt; rw [h]; rfl), upto_same s.last.length k (fun _ => none) (Dk.cacheAt s) h.symm]
theorem flushTo_some {s : Dk.St} {k : Nat} {p : List UInt8} (hk : k < s.last.length) (h : Dk.cacheAt s k = some p) : flushTo s (k + 1) = { flushTo s k with last := (flushTo s k).last.set k p, cache := (flushTo s k).cache.set k none } := by
  unfold flushTo
  rw [upto_succ _ _ _ _ hk, upto_succ s.last.length k (fun _ => none) (Dk.cacheAt s) hk]
  have : Dk.nowAt s k = p := by unfold Dk.nowAt; rw [h]; rfl
  rw [this]
theorem fKeep {W W' : World} {r b o : Nat} {v u x : Value} {vs : List Value} (h : W.cell? ⟨r, 0, none⟩ = some v ∧ W.cell? ⟨r, 1, none⟩ = some u ∧ W.cell? ⟨r, 2, none⟩ = some x ∧ W.rangeAt b o vs) (h1 : W'.heap[r]? = W.heap[r]?) (h2 : W'.heap[b]? = W.heap[b]?) :
    W'.cell? ⟨r, 0, none⟩ = some v ∧ W'.cell? ⟨r, 1, none⟩ = some u ∧ W'.cell? ⟨r, 2, none⟩ = some x ∧ W'.rangeAt b o vs :=
  ⟨(World.cell?_of_block (w := W) (a := ⟨r, 0, none⟩) h1).trans h.1, (World.cell?_of_block (w := W) (a := ⟨r, 1, none⟩) h1).trans h.2.1, (World.cell?_of_block (w := W) (a := ⟨r, 2, none⟩) h1).trans h.2.2.1, rangeAt_block h.2.2.2 h2⟩
set_option maxHeartbeats 4000000 in
theorem rflush_any {w : World} {r a b c : Nat} {s : Dk.St} (h : RefAt w r a b c s) : Calls Try.prog 15 #[.pointer (some ⟨r, 0, none⟩)] w fun e w' =>
    e = .returned (.int .i64 (Dk.flushE s)) ∧ RefAt w' r a b c (Dk.flush s) ∧ Only [r, a, b, c] w w' := by
  have HD := Lib.hid h
  have HS := Lib.hid (rstep_any h)
  have c4 := h.c4
  cases hdn : s.down with
  | true =>
    have HE : Hid (Dk.flushE s = 5) := Lib.hid (by unfold Dk.flushE; rw [if_pos hdn])
    have HF : Hid (Dk.flush s = s) := Lib.hid (by unfold Dk.flush; rw [if_pos hdn])
    rw [HE.out, HF.out]
    rw [hdn] at c4
    clear h hdn
    go_enter Try.func15, Try.ntmps15
    go_wp2
    go_ret
    exact ⟨rfl, HD.out, Only.refl _ _⟩
  | false =>
    rw [hdn] at c4
    have hnd : ¬ s.down = true := by rw [hdn]; simp
    have HE : Hid (Dk.flushE s = Dk.spendE s) := Lib.hid (by unfold Dk.flushE; rw [if_neg hnd])
    by_cases e0 : Dk.spendE s = 0
    · have HF : Hid (Dk.flush s = Dk.flushed (Dk.spend s)) := Lib.hid (by unfold Dk.flush; rw [if_neg hnd, if_pos e0])
      have hde : decide (Dk.spendE s = 0) = true := decide_eq_true e0
      rw [HE.out, HF.out, e0]
      rw [hde] at HS
      clear h hdn hnd e0 HE HF hde
      generalize Dk.spend s = s1 at HS ⊢
      go_enter Try.func15, Try.ntmps15
      go_wp2_with fail
      refine HS.out.mono ?_
      rintro e w1 ⟨rfl, hd1, ho1⟩
      have HD1 := Lib.hid hd1
      have HO1 : Hid (Only [r, a, b, c] w w1) := Lib.hid (ho1.mono (by simp))
      have hsm := hd1.ok.small
      clear HS HD c4 hd1 ho1
      go_wp2_with fail
      go_loopw [3] (fun i wr => ∃ k : Nat, k ≤ s1.last.length ∧ i = .int .i64 k ∧ RefAt wr r a b c (flushTo s1 k) ∧ Only [r, a, b, c] w wr) (fun i _ => s1.last.length - (intOf i).toNat)
      case atStart => exact ⟨0, Nat.zero_le _, rfl, by rw [flushTo_zero HD1.out.ok]; exact HD1.out, HO1.out⟩
      case round =>
        obtain ⟨k, hk, rfl, hrk, hok⟩ := hrel
        have HRK := Lib.hid hrk
        have HOK := Lib.hid hok
        have e0 := hrk.c0
        have e1 := hrk.c1
        have e2 := hrk.c2
        rw [flushTo_len] at e0 e1 e2
        by_cases hlt : k < s1.last.length
        · have hk0 : (0 : Int) ≤ (k : Int) := by omega
          have hk1 : (k : Int) < (s1.last.length : Int) := by omega
          have hon := hrk.on.at k (by rw [hrk.n, flushTo_len]; exact hlt)
          have hfr := hrk.on.frozen k (by rw [hrk.n, flushTo_len]; exact hlt)
          rw [onOf_at _ k (by rw [flushTo_clen]; exact hlt), flushTo_cache hlt] at hon
          clear hrk hok
          cases hca : Dk.cacheAt s1 k with
          | none =>
            rw [hca] at hon
            simp only [Option.isSome_none] at hon
            have HN := Lib.hid (flushTo_none hca)
            clear hca
            go_wp2
            go_roundw
            case rel => exact ⟨k + 1, by omega, by go_num, by rw [HN.out]; exact HRK.out, HOK.out⟩
            case measure => simp [intOf]; omega
          | some p =>
            rw [hca] at hon
            simp only [Option.isSome_some] at hon
            have HPL := Lib.hid (Dk.cacheAt_len HD1.out.ok hca)
            have HST := Lib.hid (flushTo_some hlt hca)
            have HKL : Hid (k < (flushTo s1 k).last.length) := Lib.hid (by rw [flushTo_len]; exact hlt)
            have HPR : Hid (wr.drew.rangeAt b (k * 64) (byteVals p)) := Lib.hid (by
              obtain ⟨new, hnew⟩ := HRK.out.new
              exact hnew.rows.range k p (hnew.held k p (by rw [flushTo_cache hlt]; exact hca)))
            have HRW := Lib.hid (HRK.out.drew.rows)
            have HEND := Lib.hid (HRK.out.drew.settle k HKL.out HPL.out (w' := wr.drew.setCells a (k * 64) (byteVals p)) (heap_setCells_other a _ _ _ r HRK.out.ra) (heap_setCells_other a _ _ _ b (Ne.symm HRK.out.ab)) (heap_setCells_other a _ _ _ c (Ne.symm HRK.out.ac)) (HRW.out.put k HKL.out p HPL.out))
            have g2 : (wr.drew.setCells a (k * 64) (byteVals p)).cell? ⟨c, k, none⟩ = some (.bool true) := (World.cell?_of_block (w := wr) (a := ⟨c, k, none⟩) (heap_setCells_other a _ _ wr.drew c (Ne.symm HRK.out.ac))).trans hon
            have g3 : (wr.drew.setCells a (k * 64) (byteVals p)).frozen? ⟨c, k, none⟩ = false := (World.frozen?_of_block (w := wr) (a := ⟨c, k, none⟩) (heap_setCells_other a _ _ wr.drew c (Ne.symm HRK.out.ac))).trans hfr
            clear hca
            go_wp2_with fail
            refine wp_region_noPanic ?_
            refine wp_region_held_drew (S := fun W => W.cell? ⟨r, 0, none⟩ = some (.slice (some ⟨a, 0, none⟩) s1.last.length s1.last.length) ∧ W.cell? ⟨r, 1, none⟩ = some (.slice (some ⟨b, 0, none⟩) s1.last.length s1.last.length) ∧ W.cell? ⟨r, 2, none⟩ = some (.slice (some ⟨c, 0, none⟩) s1.last.length s1.last.length) ∧ W.rangeAt b (k * 64) (byteVals p)) (by kernel_rfl) ⟨e0, e1, e2, HPR.out⟩ (fun hHeld => ?_)
            refine take_at (i := 0) (d := some 29) (v := .pointer (some ⟨r, 0, none⟩)) rfl rfl (by kernel_rfl) (by kernel_rfl) (by kernel_rfl) (fun _ _ _ h => h) (Or.inl ⟨by kernel_rfl, ?_⟩) hHeld ?_
            · intro w hSw; obtain ⟨s0, s1', s2, s3⟩ := hSw; go_simp
            (try simp only [Act.put, List.setIfInBounds_toArray, List.set_cons_zero, List.set_cons_succ])
            refine take_at (i := 1) (d := some 30) (v := .pointer (some ⟨r, 0, none⟩)) rfl rfl (by kernel_rfl) (by kernel_rfl) (by kernel_rfl) (fun _ _ _ h => h) (Or.inl ⟨by kernel_rfl, ?_⟩) hHeld ?_
            · intro w hSw; obtain ⟨s0, s1', s2, s3⟩ := hSw; go_simp
            (try simp only [Act.put, List.setIfInBounds_toArray, List.set_cons_zero, List.set_cons_succ])
            refine take_at (i := 2) (d := some 31) (v := .pointer (some ⟨r, 0, none⟩)) rfl rfl (by kernel_rfl) (by kernel_rfl) (by kernel_rfl) (fun _ _ _ h => h) (Or.inl ⟨by kernel_rfl, ?_⟩) hHeld ?_
            · intro w hSw; obtain ⟨s0, s1', s2, s3⟩ := hSw; go_simp
            (try simp only [Act.put, List.setIfInBounds_toArray, List.set_cons_zero, List.set_cons_succ])
            refine take_at (i := 3) (d := some 32) (v := .slice (some ⟨a, 0, none⟩) s1.last.length s1.last.length) rfl rfl (by kernel_rfl) (by kernel_rfl) (by kernel_rfl) (fun _ _ _ h => h) (Or.inl ⟨by kernel_rfl, ?_⟩) hHeld ?_
            · intro w hSw; obtain ⟨s0, s1', s2, s3⟩ := hSw; go_simp
            (try simp only [Act.put, List.setIfInBounds_toArray, List.set_cons_zero, List.set_cons_succ])
            refine take_at (i := 4) (d := some 33) (v := .int .i64 (k : Int)) rfl rfl (by kernel_rfl) (by kernel_rfl) (by kernel_rfl) (fun _ _ _ h => h) (Or.inl ⟨by kernel_rfl, ?_⟩) hHeld ?_
            · intro w hSw; obtain ⟨s0, s1', s2, s3⟩ := hSw; go_simp
            (try simp only [Act.put, List.setIfInBounds_toArray, List.set_cons_zero, List.set_cons_succ])
            refine take_at (i := 5) (d := some 34) (v := .pointer (some ⟨r, 0, none⟩)) rfl rfl (by kernel_rfl) (by kernel_rfl) (by kernel_rfl) (fun _ _ _ h => h) (Or.inl ⟨by kernel_rfl, ?_⟩) hHeld ?_
            · intro w hSw; obtain ⟨s0, s1', s2, s3⟩ := hSw; go_simp
            (try simp only [Act.put, List.setIfInBounds_toArray, List.set_cons_zero, List.set_cons_succ])
            refine take_at (i := 6) (d := some 35) (v := .pointer (some ⟨r, 0, none⟩)) rfl rfl (by kernel_rfl) (by kernel_rfl) (by kernel_rfl) (fun _ _ _ h => h) (Or.inl ⟨by kernel_rfl, ?_⟩) hHeld ?_
            · intro w hSw; obtain ⟨s0, s1', s2, s3⟩ := hSw; go_simp
            (try simp only [Act.put, List.setIfInBounds_toArray, List.set_cons_zero, List.set_cons_succ])
            refine take_at (i := 7) (d := some 36) (v := .pointer (some ⟨r, 2, none⟩)) rfl rfl (by kernel_rfl) (by kernel_rfl) (by kernel_rfl) (fun _ _ _ h => h) (Or.inl ⟨by kernel_rfl, ?_⟩) hHeld ?_
            · intro w hSw; obtain ⟨s0, s1', s2, s3⟩ := hSw; go_simp
            (try simp only [Act.put, List.setIfInBounds_toArray, List.set_cons_zero, List.set_cons_succ])
            refine take_at (i := 8) (d := some 37) (v := .slice (some ⟨c, 0, none⟩) s1.last.length s1.last.length) rfl rfl (by kernel_rfl) (by kernel_rfl) (by kernel_rfl) (fun _ _ _ h => h) (Or.inl ⟨by kernel_rfl, ?_⟩) hHeld ?_
            · intro w hSw; obtain ⟨s0, s1', s2, s3⟩ := hSw; go_simp
            (try simp only [Act.put, List.setIfInBounds_toArray, List.set_cons_zero, List.set_cons_succ])
            refine take_at (i := 9) (d := some 38) (v := .int .i64 (k : Int)) rfl rfl (by kernel_rfl) (by kernel_rfl) (by kernel_rfl) (fun _ _ _ h => h) (Or.inl ⟨by kernel_rfl, ?_⟩) hHeld ?_
            · intro w hSw; obtain ⟨s0, s1', s2, s3⟩ := hSw; go_simp
            (try simp only [Act.put, List.setIfInBounds_toArray, List.set_cons_zero, List.set_cons_succ])
            refine take_at (i := 10) (d := some 39) (v := .pointer (some ⟨r, 0, none⟩)) rfl rfl (by kernel_rfl) (by kernel_rfl) (by kernel_rfl) (fun _ _ _ h => h) (Or.inl ⟨by kernel_rfl, ?_⟩) hHeld ?_
            · intro w hSw; obtain ⟨s0, s1', s2, s3⟩ := hSw; go_simp
            (try simp only [Act.put, List.setIfInBounds_toArray, List.set_cons_zero, List.set_cons_succ])
            refine take_at (i := 11) (d := some 40) (v := .pointer (some ⟨r, 0, none⟩)) rfl rfl (by kernel_rfl) (by kernel_rfl) (by kernel_rfl) (fun _ _ _ h => h) (Or.inl ⟨by kernel_rfl, ?_⟩) hHeld ?_
            · intro w hSw; obtain ⟨s0, s1', s2, s3⟩ := hSw; go_simp
            (try simp only [Act.put, List.setIfInBounds_toArray, List.set_cons_zero, List.set_cons_succ])
            refine take_at (i := 12) (d := some 41) (v := .pointer (some ⟨r, 1, none⟩)) rfl rfl (by kernel_rfl) (by kernel_rfl) (by kernel_rfl) (fun _ _ _ h => h) (Or.inl ⟨by kernel_rfl, ?_⟩) hHeld ?_
            · intro w hSw; obtain ⟨s0, s1', s2, s3⟩ := hSw; go_simp
            (try simp only [Act.put, List.setIfInBounds_toArray, List.set_cons_zero, List.set_cons_succ])
            refine take_at (i := 13) (d := some 42) (v := .slice (some ⟨b, 0, none⟩) s1.last.length s1.last.length) rfl rfl (by kernel_rfl) (by kernel_rfl) (by kernel_rfl) (fun _ _ _ h => h) (Or.inl ⟨by kernel_rfl, ?_⟩) hHeld ?_
            · intro w hSw; obtain ⟨s0, s1', s2, s3⟩ := hSw; go_simp
            (try simp only [Act.put, List.setIfInBounds_toArray, List.set_cons_zero, List.set_cons_succ])
            refine take_at (i := 14) (d := some 43) (v := .int .i64 (k : Int)) rfl rfl (by kernel_rfl) (by kernel_rfl) (by kernel_rfl) (fun _ _ _ h => h) (Or.inl ⟨by kernel_rfl, ?_⟩) hHeld ?_
            · intro w hSw; obtain ⟨s0, s1', s2, s3⟩ := hSw; go_simp
            (try simp only [Act.put, List.setIfInBounds_toArray, List.set_cons_zero, List.set_cons_succ])
            refine take_at (i := 15) (d := some 44) (v := .pointer (some ⟨b, k * 64, none⟩)) rfl rfl (by kernel_rfl) (by kernel_rfl) (by kernel_rfl) (fun _ _ _ h => h) (Or.inl ⟨by kernel_rfl, ?_⟩) hHeld ?_
            · intro w hSw; obtain ⟨s0, s1', s2, s3⟩ := hSw; go_simp
            (try simp only [Act.put, List.setIfInBounds_toArray, List.set_cons_zero, List.set_cons_succ])
            refine take_at (i := 16) (d := some 45) (v := pageV p) rfl rfl (by kernel_rfl) (by kernel_rfl) (by kernel_rfl) (fun _ _ _ h => h) (yields_page (by kernel_rfl) (.tmp 44) rfl rfl HPL.out (fun _ hSw => hSw.2.2.2)) hHeld ?_
            (try simp only [Act.put, List.setIfInBounds_toArray, List.set_cons_zero, List.set_cons_succ])
            refine take_at (i := 17) (d := some 46) (v := .pointer (some ⟨a, k * 64, none⟩)) rfl rfl (by kernel_rfl) (by kernel_rfl) (by kernel_rfl) (fun _ _ _ h => h) (Or.inl ⟨by kernel_rfl, ?_⟩) hHeld ?_
            · intro w hSw; obtain ⟨s0, s1', s2, s3⟩ := hSw; go_simp
            (try simp only [Act.put, List.setIfInBounds_toArray, List.set_cons_zero, List.set_cons_succ])
            refine anyH_store_row2 (i := 18) HRW.out k HKL.out HPL.out (by kernel_rfl) rfl (by kernel_rfl) (.tmp 46) (.tmp 45) rfl rfl rfl none rfl (fKeep hHeld (heap_setCells_other a _ _ _ r HRK.out.ra) (heap_setCells_other a _ _ _ b (Ne.symm HRK.out.ab))) (fun hHeld => ?_)
            (try simp only [Act.put])
            refine take_at (i := 19) (d := some 47) (v := .pointer (some ⟨c, k, none⟩)) rfl rfl (by kernel_rfl) (by kernel_rfl) (by kernel_rfl) (fun _ _ _ h => h) (Or.inl ⟨by kernel_rfl, ?_⟩) hHeld ?_
            · intro w hSw; obtain ⟨s0, s1', s2, s3⟩ := hSw; go_simp
            (try simp only [Act.put, List.setIfInBounds_toArray, List.set_cons_zero, List.set_cons_succ])
            refine wpAnyH_ready (rs := [20]) (by kernel_rfl) (by simp) ?_
            refine AllReadyH.cons rfl (fun K hK => ?_) AllReadyH.nil
            go_simp
            refine hK.out _ _ (fKeep hHeld (Below.heap_setCell _ _ _ _ HRK.out.rc) (Below.heap_setCell _ _ _ _ HRK.out.bc)) (fun hHeld => ?_)
            clear hK K
            (try simp only [Act.put])
            refine wpAnyH_done (by kernel_rfl) ?_ _
            refine NoPanic.normal ?_
            go_wp2
            go_roundw
            case rel => exact ⟨k + 1, by omega, by go_num, by rw [HST.out]; exact HEND.out, (Only.setCells a (by simp) _ _ _ HOK.out.drew).setCell (by simp) _⟩
            case measure => simp [intOf]; omega
        · obtain rfl : k = s1.last.length := by omega
          rw [flushTo_end] at HRK
          clear hrk hok
          go_wp2
          go_ret
          exact ⟨rfl, HRK.out, HOK.out⟩
    · have HF : Hid (Dk.flush s = Dk.spend s) := Lib.hid (by unfold Dk.flush; rw [if_neg hnd, if_neg e0])
      have hde : decide (Dk.spendE s = 0) = false := decide_eq_false e0
      have h5 : Dk.spendE s = 5 := by rcases Dk.spend_vals s with q | q <;> omega
      rw [HE.out, HF.out, h5]
      rw [hde] at HS
      clear h hdn hnd e0 HE HF hde h5
      generalize Dk.spend s = s1 at HS ⊢
      go_enter Try.func15, Try.ntmps15
      go_wp2_with fail
      refine HS.out.mono ?_
      rintro e w1 ⟨rfl, hd1, ho1⟩
      go_wp2
      go_ret
      exact ⟨rfl, hd1, ho1.mono (by simp)⟩
end Go.Proofs.Ytaiikpfgnamgiaa
