/-
  The iterator of bits.those: which bits it hands on, to whatever loop.
-/
import Derived.Test.YtjjejdjhlnlhiaaBthose
import Derived.Stop.RegionWithIn
import Derived.Sort.QuietIn
namespace Go.Proofs.Ytjjejdjhlnlhiaa
open Go.RowKit Go.Shelf
attribute [local go_sem] Oper.semAt_some

set_option maxRecDepth 100000 in
set_option maxHeartbeats 4000000 in
theorem those1_in (m : Nat) (hm : 2 ≤ m) (l s : Nat) (on1 : Bool) (a b : Int) (A : Option Addr) (n c : Nat) (bs : List UInt8) (hn : n ≤ 1000) (J Jx : List Nat → World → Prop) (W : World)
    (hJ : AbidesFrom W.heap.size J)
    (hY : ∀ pre (x : Nat) W1, J pre W1 → pre.length < 512 * n → YieldAt Fence.wide (m - 1) Try.prog l #[.int .i64 (x : Int)] W1 fun e W' =>
      (e = .returned (.bool true) ∧ J (pre ++ [x]) W' ∧ KeepsT s A n W1 W') ∨ (e = .returned (.bool false) ∧ Jx (pre ++ [x]) W'))
    (hR : Row W A n bs) (hT : Those W s on1 (max a 0) (min b ((n : Int) * 512)) (.slice A n c)) (h0 : J [] W) :
    CallsIn Fence.wide m Try.prog 22 #[.func (.yield l) #[] #[], .pointer (some ⟨s + 1, 0, none⟩), .pointer (some ⟨s + 2, 0, none⟩), .pointer (some ⟨s + 3, 0, none⟩), .pointer (some ⟨s, 0, none⟩)] W fun e W' => (∃ v, e = .returned v) ∧
      ((∃ ys, ys = Bt.all bs on1 a b ∧ J ys W') ∨ (∃ pre, pre <+: Bt.all bs on1 a b ∧ Jx pre W')) := by
  have h1 : 1 ≤ m := by omega
  have HR := Lib.hid hR; clear hR
  have HT := Lib.hid hT; clear hT
  obtain ⟨A0, hA0⟩ : ∃ x, max a 0 = x := ⟨_, rfl⟩
  obtain ⟨B0, hB0⟩ : ∃ x, min b ((n : Int) * 512) = x := ⟨_, rfl⟩
  obtain ⟨L, hL⟩ : ∃ x, Bt.lo a = x := ⟨_, rfl⟩
  have HL : Hid (A0 = (L : Int)) := Lib.hid (by rw [← hL, ← hA0]; unfold Bt.lo; omega)
  have HH : Hid (Bt.hi bs b = B0) := Lib.hid (by rw [← hB0]; unfold Bt.hi; rw [HR.out.len]; congr 1; omega)
  have HBS := Lib.hid HR.out.len
  have HL' := Lib.hid hL; clear hL
  rw [hA0, hB0, HL.out] at HT
  clear hA0 HL
  have hlo := HT.out.lo.cell
  have hB1 : B0 ≤ 512000 := by omega
  clear hB0
  refine callsIn_of_wp Try.func22 rfl trivial ?_ rfl
  simp only [Try.ntmps22, List.size_toArray, List.length_cons, List.length_nil, Nat.reduceAdd, Nat.reduceSub, Array.replicate_succ, Array.replicate_zero, List.push_toArray, List.append_toArray, List.nil_append, List.cons_append]
  gi_wp2
  gi_loopw [6] (fun p wr => ∃ k : Nat, p = .int .i64 (k : Int) ∧ L ≤ k ∧ (k ≤ 512 * n ∨ k = L) ∧ J (Bt.upto bs on1 a b k) wr ∧ KeepsT s A n W wr)
    (fun p _ => (B0 - intOf p).toNat)
  case atStart => exact ⟨L, rfl, Nat.le_refl _, .inr rfl, by rw [← HL'.out, Bt.upto_start]; exact h0, KeepsT.refl _ _ _ _⟩
  case round =>
    obtain ⟨k, rfl, hk1, hk2, hJs, hkt⟩ := hrel
    have HT2 := Lib.hid (HT.out.keep hkt)
    have HR2 := Lib.hid (HR.out.keepT hkt)
    have hhi := HT2.out.hi.cell
    have hl := HT2.out.l.cell
    have hon := HT2.out.on1.cell
    by_cases hlt : (k : Int) < B0
    · have HQ : Hid (Bt.among bs on1 a b k = (Bt.bit bs k == on1)) := Lib.hid (Bt.upto_step _ _ _ _ _ (by rw [HL'.out]; exact hk1) (by rw [HH.out]; exact hlt))
      have HG : Hid (Bt.getB bs (k : Int) = Bt.bit bs k) := Lib.hid (Bt.getB_nat bs k)
      have HK : Hid (k + 1 ≤ 512 * n) := Lib.hid (by
        have := HH.out; unfold Bt.hi at this; rw [HBS.out] at this; omega)
      have HGET : Hid (∀ j, Calls Try.prog 8 #[.int .i64 (k : Int), .slice A n c] (wr.drewN j) fun e w' => e = .returned (.bool (Bt.bit bs k)) ∧ ∃ i, w' = (wr.drewN j).drewN i) := Lib.hid fun j => HG.out ▸ get_any _ _ _ _ _ _ (HR2.out.drewN j) hn
      cases hbo : Bt.bit bs k == on1 with
      | false =>
        gi_wp2
        refine wpIn_wide.2 ?_
        go_quiet ((go_at_call 8; refine Calls.quiet_of (HGET.out _)))
        gi_wp2
        go_roundw
        case rel => exact ⟨k + 1, by go_num, by omega, .inl HK.out, by rw [Bt.upto_no _ _ _ _ _ (HQ.out.trans hbo)]; exact AbidesFrom.drewN hJ hJs _, hkt.trans (KeepsT.drewN _ _ _ _ _)⟩
        case measure => simp [intOf]; omega
      | true =>
        have hlen : (Bt.upto bs on1 a b k).length < 512 * n := Nat.lt_of_le_of_lt (Bt.upto_length _ _ _ _ _) (by have := HK.out; omega)
        gi_wp2
        gi_region_with (first
          | (refine ⟨trivial, ?_⟩; gi_at_call 8; refine (callsIn_wide.2 (HGET.out 1)).mono ?_; rintro e w' ⟨rfl, i, rfl⟩; obtain ⟨fn, tmps, assign, body, hy, hR⟩ := hY _ k (wr.drewN (1 + i)) (AbidesFrom.drewN hJ hJs (1 + i)) hlen; have hR := hR.mono (R' := fun e W' => ∃ r : Bool, e = .returned (.bool r) ∧ ((r = true ∧ J (Bt.upto bs on1 a b k ++ [k]) W' ∧ KeepsT s A n wr W') ∨ (r = false ∧ Jx (Bt.upto bs on1 a b k ++ [k]) W'))) (fun e W' h => h.elim (fun h => ⟨true, h.1, .inl ⟨rfl, h.2.1, ⟨h.2.2.size, h.2.2.vars, h.2.2.pages⟩⟩⟩) (fun h => ⟨false, h.1, .inr ⟨rfl, h.2⟩⟩)))
          | (refine hR.mono ?_; rintro e W3 ⟨r, rfl, h3⟩; clear hR hy))
        all_goals
          have HY : Hid (Bt.upto bs on1 a b (k + 1) = Bt.upto bs on1 a b k ++ [k]) := Lib.hid (Bt.upto_yes _ _ _ _ _ (HQ.out.trans hbo))
          rcases h3 with ⟨rfl, hJ3, hk3⟩ | ⟨rfl, hJx3⟩
          · gi_wp2
            go_roundw
            case rel => exact ⟨k + 1, by go_num, by omega, .inl HK.out, by rw [HY.out]; exact hJ3, hkt.trans hk3⟩
            case measure => simp [intOf]; omega
          · gi_wp2
            refine bodyPost_ret (results_none rfl _ _ _) rfl ?_
            exact ⟨⟨_, rfl⟩, .inr ⟨_, by rw [← HY.out]; exact Bt.upto_pre _ _ _ _ _ (by rw [HBS.out]; have := HK.out; omega), hJx3⟩⟩
    · have HE : Hid (Bt.upto bs on1 a b k = Bt.all bs on1 a b) := Lib.hid (Bt.upto_end _ _ _ _ _ (by rw [HL'.out]; exact hk1) (by rw [HH.out]; omega) (by rw [HBS.out, HL'.out]; omega))
      gi_wp2
      go_end0
      exact ⟨⟨_, rfl⟩, .inl (by rw [← HE.out]; exact hJs)⟩
/-- the iterator's contract, for whatever loop -/
theorem those_stops (m : Nat) (hm : 2 ≤ m) (s : Nat) (on1 : Bool) (a b : Int) (A : Option Addr) (n c : Nat) (bs : List UInt8) (hn : n ≤ 1000) (w : World) (hs : s + 4 ≤ w.heap.size)
    (hR : Row w A n bs) (hT : Those w s on1 (max a 0) (min b ((n : Int) * 512)) (.slice A n c)) :
    SeqStopsK Fence.wide m Try.prog 22 #[.pointer (some ⟨s + 1, 0, none⟩), .pointer (some ⟨s + 2, 0, none⟩), .pointer (some ⟨s + 3, 0, none⟩), .pointer (some ⟨s, 0, none⟩)] (fun x : Nat => #[Value.int .i64 (x : Int)]) (KeepsT s A n)
      (fun ys => ys = Bt.all bs on1 a b) (fun pre => pre <+: Bt.all bs on1 a b) (512 * n) w := fun l J Jx W hW hJ _ hY h0 => by
  refine those1_in m hm l s on1 a b A n c bs hn J Jx W hJ hY (hR.step hW) ?_ h0
  exact ⟨(hW.block s (by omega)).trans hT.on1, (hW.block (s + 1) (by omega)).trans hT.lo, (hW.block (s + 2) (by omega)).trans hT.hi, (hW.block (s + 3) (by omega)).trans hT.l⟩
end Go.Proofs.Ytjjejdjhlnlhiaa
