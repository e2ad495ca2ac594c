/-
  The project's own Decode.
-/
import Derived.Test.YteobdjgodljjmaaYrow
import Derived.Test.YteobdjgodljjmaaYrd
import Derived.Test.YteobdjgodljjmaaAmade
namespace Go.Proofs.Yteobdjgodljjmaa
open Go.RowKit Go.Maps

def zIn : List Value := inL ⟨0, 0, 0, 0, 0⟩
/-- what has been read, and what isn't yet -/
def rowsD (xs : List Y.In) (m : Nat) : List (List Value) := xs.map inL ++ List.replicate m zIn
theorem rowsD_set (xs : List Y.In) (m : Nat) (x : Y.In) : (rowsD xs (m + 1)).set xs.length (inL x) = rowsD (xs ++ [x]) m := by
  unfold rowsD
  rw [List.set_append_right _ _ (by simp), List.length_map, Nat.sub_self, List.replicate_succ, List.set_cons_zero, List.map_append, List.append_assoc]
  rfl
structure DecS (w0 : World) (B : Nat) (xs : List Y.In) (m : Nat) (W : World) : Prop where
  tab : TabAt W B 5 (rowsD xs m)
  bel : Below w0.heap.size w0 W
  sz : w0.heap.size ≤ B ∧ B < W.heap.size
theorem DecS.call {w0 : World} {B : Nat} {xs : List Y.In} {m : Nat} {W W' : World} (k : DecS w0 B xs m W) (hb : Below W.heap.size W W') : DecS w0 B xs m W' := ⟨k.tab.below hb k.sz.2, k.bel.trans (hb.mono k.bel.size), by have := k.sz; have := hb.size; omega⟩
theorem DecS.store {w0 : World} {B : Nat} {xs : List Y.In} {m k : Nat} {W : World} (h : DecS w0 B xs (m + 1) W) (hk : k = xs.length) (x : Y.In) : DecS w0 B (xs ++ [x]) m (W.setCells B (k * 5) (inL x)) where
  tab := by
    subst hk
    rw [← rowsD_set]
    exact h.tab.set _ (by unfold rowsD; simp) _ rfl
  bel := below_setCells _ h.sz.1 _ _ _ h.bel
  sz := ⟨h.sz.1, by rw [heap_setCells]; exact h.sz.2⟩
theorem decS_new (w : World) (n : Nat) (t : TypeId) : DecS w w.heap.size [] n (w.alloc (.cells (madeCells zIn.toArray (n * 5)) t)) := ⟨tab_new w zIn 5 n t rfl, (Below.refl _ _).alloc (Nat.le_refl _) _, by simp⟩
theorem run_make_ins (w : World) (n : Nat) (hn : n ≤ 1000) : (Instr.makeSlice 22 (.int .i64 (n : Int)) (.int .i64 (n : Int))).run Try.prog w = .ok (.slice (some ⟨w.heap.size, 0, none⟩) n n) (w.alloc (.cells (madeCells zIn.toArray (n * 5)) 42)) := by
  obtain ⟨i, hi, hz, hs, hb⟩ := info_parts info_in
  have := run_make (P := Try.prog) w 22 42 i (.agg zIn.toArray) Try.underlying22 hi hz .i64 .i64 (n : Int) (n : Int) (by omega) (by omega) (by rw [hb]; omega) (by omega)
  rw [hs, Int.toNat_natCast] at this
  exact this
theorem DecS.ins {w0 : World} {B n : Nat} {xs : List Y.In} {W : World} (k : DecS w0 B xs 0 W) (hn : xs.length = n) : InsAt W (some ⟨B, 0, none⟩) n xs := ⟨hn, by
  have := k.tab.many k.sz.2
  unfold rowsD at this
  simpa using this⟩
theorem dec_no {s : ByteArray} {w w' : World} {A : Option Addr} {c : Nat} (h : Y.reads s.data.toList = false) (hb : Below w.heap.size w w') : DecGive s w (.returned (.tuple #[.slice A 0 c, .int .i64 22])) w' := by
  unfold DecGive; rw [if_neg (by rw [h]; decide)]; exact ⟨A, c, rfl, hb⟩
theorem dec_yes {s : ByteArray} {w w' : World} {A : Option Addr} {n c : Nat} (h : Y.reads s.data.toList = true) (hn : n = s.size / 8) (hi : InsAt w' A n (Y.read s.data.toList)) (hb : Below w.heap.size w w') : DecGive s w (.returned (.tuple #[.slice A n c, .int .i64 0])) w' := by
  unfold DecGive; rw [if_pos h]; subst hn; exact ⟨A, c, rfl, hi, hb⟩
set_option maxRecDepth 100000 in
set_option maxHeartbeats 4000000 in
theorem decode_any (s : ByteArray) (w : World) (hs : s.size ≤ 9223372036854775807) : Calls Try.prog 12 #[.string s] w (DecGive s w) := by
  have HL : Hid (s.data.toList.length = s.size) := Lib.hid rfl
  have HB := Lib.hid (Below.refl w.heap.size w)
  cases hf : Y.fits s.data.toList with
  | false =>
    have HG := Lib.hid (fun A c w' => dec_no (w := w) (w' := w') (A := A) (c := c) (s := s) (by unfold Y.reads; rw [hf]; rfl))
    have hn : ¬ (s.size % 8 = 0 ∧ s.size ≤ 512) := by unfold Y.fits at hf; rw [HL.out] at hf; exact of_decide_eq_false hf
    clear hf
    by_cases h8 : s.size % 8 = 0
    · have h5 : 512 < s.size := by omega
      have e8' : ((s.size : Int).tmod 8) = 0 := by rw [Int.tmod_eq_emod_of_nonneg (by omega)]; omega
      have e8 : ((s.size : Int) % 8) = 0 := by omega
      clear hn h8
      go_enter Try.func12, Try.ntmps12
      go_wp2
      go_ret2
      exact HG.out _ _ _ HB.out
    · have e8' : ¬ ((s.size : Int).tmod 8) = 0 := by rw [Int.tmod_eq_emod_of_nonneg (by omega)]; omega
      have e9 : ¬ ((s.size : Int) % 8 = 0) := by omega
      clear hn h8
      go_enter Try.func12, Try.ntmps12
      go_wp2
      go_ret2
      exact HG.out _ _ _ HB.out
  | true =>
    have hn : s.size % 8 = 0 ∧ s.size ≤ 512 := by unfold Y.fits at hf; rw [HL.out] at hf; exact of_decide_eq_true hf
    have HF := Lib.hid hf
    obtain ⟨n, hm⟩ : ∃ n, s.size = 8 * n := ⟨s.size / 8, by omega⟩
    have e8' : ((s.size : Int).tmod 8) = 0 := by rw [Int.tmod_eq_emod_of_nonneg (by omega)]; omega
    have e8 : ((s.size : Int) % 8) = 0 := by omega
    have hq : ((s.size : Int).tdiv 8) = (n : Int) := by rw [Int.tdiv_eq_ediv_of_nonneg (by omega)]; omega
    have hq' : ((s.size : Int) / 8) = (n : Int) := by omega
    have hm5 : s.size ≤ 512 := hn.2
    have HM := Lib.hid hm
    have hn64 : n ≤ 64 := by omega
    have hmk := run_make_ins w n (by omega)
    have S0 := Lib.hid (decS_new w n 42)
    clear hf hn hm
    go_enter Try.func12, Try.ntmps12
    go_upto_region 5 with fail
    generalize w.alloc (.cells (madeCells zIn.toArray (n * 5)) 42) = W1 at S0 ⊢
    clear hmk e8 e8' hq hq'
    go_loopw [5, 21] (fun _ i wr => ∃ k : Nat, k ≤ n ∧ i = .int .i64 (k : Int) ∧ Hid (DecS w w.heap.size (Y.readN s.data.toList k) (n - k) wr)) (fun _ i _ => n - (intOf i).toNat)
    case atStart => exact ⟨0, Nat.zero_le _, rfl, S0⟩
    case round =>
      clear S0
      obtain ⟨k, hk, rfl, S⟩ := hrel
      rename World => wo
      by_cases hlt : k < n
      · have hx := readN_more s.data.toList k
        have HX := Lib.hid hx
        have HN : Hid (k = (Y.readN s.data.toList k).length) := Lib.hid (readN_length _ _).symm
        have hM := HM.out
        have HRD : Hid (∀ w, Calls Try.prog 25 #[.string (s.extract (k * 8) ((k + 1) * 8))] w fun e w' => e = .returned (.agg (inL (Y.readAt s.data.toList k)).toArray) ∧ Below w.heap.size w w') := Lib.hid (fun w => by
          have := read_any (s.extract (8 * k) (8 * k + 8)) w (extract_size s (8 * k) 8 (by omega))
          rw [extract_list] at this
          rw [show k * 8 = 8 * k by omega, show (k + 1) * 8 = 8 * k + 8 by omega]
          exact this)
        have hb1 : ((k : Int) + 1) * 8 ≤ (s.size : Int) := by omega
        have hb0 : (0 : Int) ≤ ((k : Int) + 1) * 8 := by omega
        have hb2 : (k : Int) * 8 ≤ ((k : Int) + 1) * 8 := by omega
        generalize Y.readAt s.data.toList k = x at HX HRD
        obtain ⟨m, hm⟩ : ∃ m, n - k = m + 1 := ⟨n - k - 1, by omega⟩
        have hm2 : n - (k + 1) = m := by omega
        rw [hm] at S
        have hw0 : IntKind.i64.wrap ((k : Int) + 1) = ((k + 1 : Nat) : Int) := by rw [IntKind.wrap_i64]; omega
        have hk0 : (0 : Int) ≤ (k : Int) := by omega
        have hk1 : (k : Int) < (n : Int) := by omega
        have HI : Hid (k < (rowsD (Y.readN s.data.toList k) (m + 1)).length) := Lib.hid (by unfold rowsD; rw [List.length_append, List.length_map, readN_length, List.length_replicate]; omega)
        clear hM hm hx
        generalize Y.readN s.data.toList k = ys at S HX HN HI
        go_wp2_with (first
          | (go_at_call 25; (with_reducible refine (HRD.out _).mono ?_); rintro e w2 ⟨rfl, hb⟩; replace S := Lib.hid (S.out.call hb); clear hb)
          | ((with_reducible refine wpList_store_tab inT S.out.tab k HI.out (inL_length _) (inL_one x) rfl (.tmp 34) (.tmp 33) rfl ?_ ?_ ?_); (exact rfl); (exact rfl); have S2 := Lib.hid (S.out.store HN.out x); clear S; generalize World.setCells _ w.heap.size (k * 5) (inL x) = W5 at S2 ⊢))
        rw [← HX.out, ← hm2] at S2
        go_roundw
        case rel => exact ⟨k + 1, by omega, by go_num, S2⟩
        case measure => (simp [intOf] <;> omega)
      · obtain rfl : k = n := by omega
        rw [Nat.sub_self] at S
        have e : Y.readN s.data.toList k = Y.read s.data.toList := by
          unfold Y.read
          rw [HL.out, HM.out, Nat.mul_div_cancel_left _ (by decide)]
        rw [e] at S
        have HI := Lib.hid (S.out.ins (n := k) (by rw [← e]; exact readN_length _ _))
        have HBL := Lib.hid S.out.bel
        have HR : Hid (Calls Try.prog 11 #[.slice (some ⟨w.heap.size, 0, none⟩) k k] wo fun e w' => e = .returned (.bool (Y.all (Y.read s.data.toList))) ∧ Below wo.heap.size wo w') := Lib.hid (right_any _ k k _ wo HI.out (by unfold maxLen; omega))
        have HRE : Hid (Y.reads s.data.toList = Y.all (Y.read s.data.toList)) := Lib.hid (by unfold Y.reads; rw [HF.out]; rfl)
        have HG := Lib.hid (fun A c w' => dec_no (w := w) (w' := w') (A := A) (c := c) (s := s))
        have HY := Lib.hid (fun A n c w' => dec_yes (w := w) (w' := w') (A := A) (n := n) (c := c) (s := s))
        rw [HRE.out] at HG HY
        generalize Y.read s.data.toList = xs at HI HR HG HY
        have HSZ : Hid (k = s.size / 8) := Lib.hid (by rw [HM.out, Nat.mul_div_cancel_left _ (by decide)])
        clear e hlt S HRE
        cases ha : Y.all xs with
        | false =>
          rw [ha] at HR
          have HA := Lib.hid ha
          clear ha
          go_wp2_with (go_at_call 11; (with_reducible refine HR.out.mono ?_); rintro e w3 ⟨rfl, hb⟩; have B3 := Lib.hid (HBL.out.trans (hb.mono HBL.out.size)); clear hb)
          go_ret2
          exact HG.out _ _ _ HA.out B3.out
        | true =>
          rw [ha] at HR
          have HA := Lib.hid ha
          clear ha
          go_wp2_with (go_at_call 11; (with_reducible refine HR.out.mono ?_); rintro e w3 ⟨rfl, hb⟩; have B3 := Lib.hid (HBL.out.trans (hb.mono HBL.out.size)); have I3 := Lib.hid (HI.out.step hb); clear hb)
          go_ret2
          exact HY.out _ _ _ _ HA.out HSZ.out I3.out B3.out
end Go.Proofs.Yteobdjgodljjmaa
