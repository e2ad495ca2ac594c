/- Texts of the proof: Biter, Bcount, Ftake, Freach, Fcut, Pzero, Fcutn. -/
import Derived.Test.YtncmihikpcdgoaaGreatMak
import Derived.Stop.RegionWithIn
import Derived.Sort.QuietIn
import Derived.Test.YtncmihikpcdgoaaGreatMah
import Derived.Test.YtncmihikpcdgoaaGreatMac
namespace Go.Proofs.YtncmihikpcdgoaaGreat
open Go.RowKit Go.Shelf
attribute [local go_sem] Oper.semAt_some
set_option maxRecDepth 100000 in
set_option maxHeartbeats 4000000 in
theorem those1_in (m : Nat) (hm : 2 ≤ m) (l s : Nat) (on1 : Bool) (a b : Int) (A : Option Addr) (n c : Nat) (bs : List UInt8) (hn : n ≤ 1000) (J Jx : List Nat → World → Prop) (W : World)
    (hJ : AbidesFrom W.heap.size J)
    (hY : ∀ pre (x : Nat) W1, J pre W1 → pre.length < 512 * n → YieldAt Fence.wide (m - 1) Tryz.prog l #[.int .i64 (x : Int)] W1 fun e W' =>
      (e = .returned (.bool true) ∧ J (pre ++ [x]) W' ∧ KeepsT s A n W1 W') ∨ (e = .returned (.bool false) ∧ Jx (pre ++ [x]) W'))
    (hR : Row W A n bs) (hT : Those W s on1 (max a 0) (min b ((n : Int) * 512)) (.slice A n c)) (h0 : J [] W) :
    CallsIn Fence.wide m Tryz.prog 143 #[.func (.yield l) #[] #[], .pointer (some ⟨s + 1, 0, none⟩), .pointer (some ⟨s + 2, 0, none⟩), .pointer (some ⟨s + 3, 0, none⟩), .pointer (some ⟨s, 0, none⟩)] W fun e W' => (∃ v, e = .returned v) ∧
      ((∃ ys, ys = Bt.all bs on1 a b ∧ J ys W') ∨ (∃ pre, pre <+: Bt.all bs on1 a b ∧ Jx pre W')) := by
  have h1 : 1 ≤ m := by omega
  have HR := Lib.hid hR; clear hR
  have HT := Lib.hid hT; clear hT
  obtain ⟨A0, hA0⟩ : ∃ x, max a 0 = x := ⟨_, rfl⟩
  obtain ⟨B0, hB0⟩ : ∃ x, min b ((n : Int) * 512) = x := ⟨_, rfl⟩
  obtain ⟨L, hL⟩ : ∃ x, Bt.lo a = x := ⟨_, rfl⟩
  have HL : Hid (A0 = (L : Int)) := Lib.hid (by rw [← hL, ← hA0]; unfold Bt.lo; omega)
  have HH : Hid (Bt.hi bs b = B0) := Lib.hid (by rw [← hB0]; unfold Bt.hi; rw [HR.out.len]; congr 1; omega)
  have HBS := Lib.hid HR.out.len
  have HL' := Lib.hid hL; clear hL
  rw [hA0, hB0, HL.out] at HT
  clear hA0 HL
  have hlo := HT.out.lo.cell
  have hB1 : B0 ≤ 512000 := by omega
  clear hB0
  refine callsIn_of_wp Tryz.func143 rfl trivial ?_ rfl
  simp only [Tryz.ntmps143, List.size_toArray, List.length_cons, List.length_nil, Nat.reduceAdd, Nat.reduceSub, Array.replicate_succ, Array.replicate_zero, List.push_toArray, List.append_toArray, List.nil_append, List.cons_append]
  gi_wp2
  gi_loopw [6] (fun p wr => ∃ k : Nat, p = .int .i64 (k : Int) ∧ L ≤ k ∧ (k ≤ 512 * n ∨ k = L) ∧ J (Bt.upto bs on1 a b k) wr ∧ KeepsT s A n W wr)
    (fun p _ => (B0 - intOf p).toNat)
  case atStart => exact ⟨L, rfl, Nat.le_refl _, .inr rfl, by rw [← HL'.out, Bt.upto_start]; exact h0, KeepsT.refl _ _ _ _⟩
  case round =>
    obtain ⟨k, rfl, hk1, hk2, hJs, hkt⟩ := hrel
    have HT2 := Lib.hid (HT.out.keep hkt)
    have HR2 := Lib.hid (HR.out.keepT hkt)
    have hhi := HT2.out.hi.cell
    have hl := HT2.out.l.cell
    have hon := HT2.out.on1.cell
    by_cases hlt : (k : Int) < B0
    · have HQ : Hid (Bt.among bs on1 a b k = (Bt.bit bs k == on1)) := Lib.hid (Bt.upto_step _ _ _ _ _ (by rw [HL'.out]; exact hk1) (by rw [HH.out]; exact hlt))
      have HG : Hid (Bt.getB bs (k : Int) = Bt.bit bs k) := Lib.hid (Bt.getB_nat bs k)
      have HK : Hid (k + 1 ≤ 512 * n) := Lib.hid (by
        have := HH.out; unfold Bt.hi at this; rw [HBS.out] at this; omega)
      have HGET : Hid (∀ j, Calls Tryz.prog 144 #[.int .i64 (k : Int), .slice A n c] (wr.drewN j) fun e w' => e = .returned (.bool (Bt.bit bs k)) ∧ ∃ i, w' = (wr.drewN j).drewN i) := Lib.hid fun j => HG.out ▸ bget_any _ _ _ _ _ _ (HR2.out.drewN j) hn
      cases hbo : Bt.bit bs k == on1 with
      | false =>
        gi_wp2
        refine wpIn_wide.2 ?_
        go_quiet ((go_at_call 144; refine Calls.quiet_of (HGET.out _)))
        gi_wp2
        go_roundw
        case rel => exact ⟨k + 1, by go_num, by omega, .inl HK.out, by rw [Bt.upto_no _ _ _ _ _ (HQ.out.trans hbo)]; exact AbidesFrom.drewN hJ hJs _, hkt.trans (KeepsT.drewN _ _ _ _ _)⟩
        case measure => simp [intOf]; omega
      | true =>
        have hlen : (Bt.upto bs on1 a b k).length < 512 * n := Nat.lt_of_le_of_lt (Bt.upto_length _ _ _ _ _) (by have := HK.out; omega)
        gi_wp2
        gi_region_with (first
          | (refine ⟨trivial, ?_⟩; gi_at_call 144; refine (callsIn_wide.2 (HGET.out 1)).mono ?_; rintro e w' ⟨rfl, i, rfl⟩; obtain ⟨fn, tmps, assign, body, hy, hR⟩ := hY _ k (wr.drewN (1 + i)) (AbidesFrom.drewN hJ hJs (1 + i)) hlen; have hR := hR.mono (R' := fun e W' => ∃ r : Bool, e = .returned (.bool r) ∧ ((r = true ∧ J (Bt.upto bs on1 a b k ++ [k]) W' ∧ KeepsT s A n wr W') ∨ (r = false ∧ Jx (Bt.upto bs on1 a b k ++ [k]) W'))) (fun e W' h => h.elim (fun h => ⟨true, h.1, .inl ⟨rfl, h.2.1, ⟨h.2.2.size, h.2.2.vars, h.2.2.pages⟩⟩⟩) (fun h => ⟨false, h.1, .inr ⟨rfl, h.2⟩⟩)))
          | (refine hR.mono ?_; rintro e W3 ⟨r, rfl, h3⟩; clear hR hy))
        all_goals
          have HY : Hid (Bt.upto bs on1 a b (k + 1) = Bt.upto bs on1 a b k ++ [k]) := Lib.hid (Bt.upto_yes _ _ _ _ _ (HQ.out.trans hbo))
          rcases h3 with ⟨rfl, hJ3, hk3⟩ | ⟨rfl, hJx3⟩
          · gi_wp2
            go_roundw
            case rel => exact ⟨k + 1, by go_num, by omega, .inl HK.out, by rw [HY.out]; exact hJ3, hkt.trans hk3⟩
            case measure => simp [intOf]; omega
          · gi_wp2
            refine bodyPost_ret (results_none rfl _ _ _) rfl ?_
            exact ⟨⟨_, rfl⟩, .inr ⟨_, by rw [← HY.out]; exact Bt.upto_pre _ _ _ _ _ (by rw [HBS.out]; have := HK.out; omega), hJx3⟩⟩
    · have HE : Hid (Bt.upto bs on1 a b k = Bt.all bs on1 a b) := Lib.hid (Bt.upto_end _ _ _ _ _ (by rw [HL'.out]; exact hk1) (by rw [HH.out]; omega) (by rw [HBS.out, HL'.out]; omega))
      gi_wp2
      go_end0
      exact ⟨⟨_, rfl⟩, .inl (by rw [← HE.out]; exact hJs)⟩
set_option maxRecDepth 100000 in
/-- the iterator's contract, for whatever loop -/
theorem those_stops (m : Nat) (hm : 2 ≤ m) (s : Nat) (on1 : Bool) (a b : Int) (A : Option Addr) (n c : Nat) (bs : List UInt8) (hn : n ≤ 1000) (w : World) (hs : s + 4 ≤ w.heap.size)
    (hR : Row w A n bs) (hT : Those w s on1 (max a 0) (min b ((n : Int) * 512)) (.slice A n c)) :
    SeqStopsK Fence.wide m Tryz.prog 143 #[.pointer (some ⟨s + 1, 0, none⟩), .pointer (some ⟨s + 2, 0, none⟩), .pointer (some ⟨s + 3, 0, none⟩), .pointer (some ⟨s, 0, none⟩)] (fun x : Nat => #[Value.int .i64 (x : Int)]) (KeepsT s A n)
      (fun ys => ys = Bt.all bs on1 a b) (fun pre => pre <+: Bt.all bs on1 a b) (512 * n) w := fun l J Jx W hW hJ _ hY h0 => by
  refine those1_in m hm l s on1 a b A n c bs hn J Jx W hJ hY (hR.step hW) ?_ h0
  exact ⟨(hW.block s (by omega)).trans hT.on1, (hW.block (s + 1) (by omega)).trans hT.lo, (hW.block (s + 2) (by omega)).trans hT.hi, (hW.block (s + 3) (by omega)).trans hT.l⟩
end Go.Proofs.YtncmihikpcdgoaaGreat

namespace Go.Proofs.YtncmihikpcdgoaaGreat
open Go.RowKit Go.Shelf
attribute [local go_sem] Oper.semAt_some
set_option maxRecDepth 100000 in
/-- a row's block lies below a world's end -/
theorem Row.lt {w : World} {A : Option Addr} {n : Nat} {bs : List UInt8} (h : Row w A n bs) : 0 < n → ∀ b off, A = some ⟨b, off, none⟩ → b < w.heap.size := fun h0 b off e => by
  obtain ⟨b', off', e', hlt, _⟩ := h.cells h0
  rw [e] at e'
  injection e' with e'; injection e' with e1 e2
  omega
set_option maxRecDepth 100000 in
theorem KeepsT.setCell {s B : Nat} {A : Option Addr} {n : Nat} (hB : B < s) (hA : 0 < n → ∀ b off, A = some ⟨b, off, none⟩ → b < B) (W : World) (v : Value) : KeepsT s A n W (W.setCell ⟨B, 0, none⟩ v) :=
  ⟨(KeepsOthers.setCell _ _ _).size, fun k h1 _ => Below.heap_setCell _ _ _ k (fun e => by simp at e; omega), fun h0 b off e => Below.heap_setCell _ _ _ b (fun q => by simp at q; have := hA h0 b off e; omega)⟩
set_option maxRecDepth 100000 in
set_option maxHeartbeats 2000000 in
theorem count_in (a b : Int) (A : Option Addr) (n c : Nat) (bs : List UInt8) (w : World) (hR : Row w A n bs) (hn : n ≤ 1000) :
    CallsIn Fence.wide 5 Tryz.prog 68 #[.int .i64 a, .int .i64 b, .slice A n c] w fun e W' => e = .returned (.int .i64 ((Bt.all bs true a b).length : Int)) ∧ Below w.heap.size w W' := by
  have HR := Lib.hid hR; clear hR
  refine callsIn_of_wp_marks Tryz.func68 rfl trivial ?_ rfl
  simp only [Tryz.ntmps68, List.size_toArray, List.length_cons, List.length_nil, Nat.reduceAdd, Nat.reduceSub, Array.replicate_succ, Array.replicate_zero, List.push_toArray, List.append_toArray, List.nil_append, List.cons_append]
  gi_wp2_with (refine ⟨trivial, ?_⟩; gi_at_call 108; refine (callsIn_wide.2 (those_any _ _ _ _ _ _ _ hn)).mono ?_; rintro e w1 ⟨rfl, hT, hB, hsz⟩)
  simp only [World.size_alloc] at hT hB hsz
  have bN : Boxed w1 w.heap.size 3 (.int .i64 0) := (hB.block w.heap.size (by omega)).trans (Boxed.new w 3 (.int .i64 0))
  have hB0 : Below w.heap.size w w1 := ((Below.refl _ w).alloc (Nat.le_refl _) _).trans (hB.mono (by omega))
  have hlt := HR.out.lt
  refine wpIn_rangeFunc_ownG rfl (by omega) (gf := 143) (lb := #[.pointer (some ⟨w.heap.size + 1 + 1, 0, none⟩), .pointer (some ⟨w.heap.size + 1 + 2, 0, none⟩), .pointer (some ⟨w.heap.size + 1 + 3, 0, none⟩), .pointer (some ⟨w.heap.size + 1, 0, none⟩)]) rfl trivial (enters_of Tryz.func143 (by kernel_rfl) rfl)
    (those_stops (5 - 1) (by omega) (w.heap.size + 1) true a b A n c bs hn w1 (by omega) (HR.out.step hB0) hT) KeepsT.trans (KeepsT.putObj (by omega) (fun h0 b off e => by have := hlt h0 b off e; omega)) (Below.refl _ _) (fun _ => rfl)
    (fun pre W => Boxed W w.heap.size 3 (.int .i64 (pre.length : Int)) ∧ Below w.heap.size w W)
    (fun _ _ _ => False)
    (OwnFrom.and (Own.from (boxed_own _ _ (fun pre : List Nat => .int .i64 (pre.length : Int))) _) (ownFrom_below (Nat.le_refl _) (by omega)))
    (fun _ _ _ _ _ hs _ _ => hs)
    ⟨bN, hB0⟩
    (fun x => { tmps := #[.int .i64 a, .int .i64 b, .slice A n c, undef, undef, undef, .int .i64 0, .pointer (some ⟨w.heap.size, 0, none⟩), .int .i64 a, .int .i64 b, .slice A n c, thoseV (w.heap.size + 1), .int .i64 (x : Int), undef, undef, undef], defers := [] }) ?assign ?body ?done ?stop
  case assign =>
    intro l x W K hK
    gi_wp2
    simpa using hK
  case body =>
    rintro l pre x W ⟨hb, hB⟩ hlen
    have hc := hb.cell
    have hf := hb.frozen
    have hle : (pre.length : Int) + 1 ≤ 9223372036854775807 := by omega
    have HW : Hid (((pre ++ [x]).length : Int) = (pre.length : Int) + 1) := Lib.hid (by simp)
    gi_wp2
    refine ⟨(KeepsOthers.setCell _ _ _).from _, KeepsT.setCell (by omega) hlt _ _, ?_, hB.setCell (p := ⟨w.heap.size, 0, none⟩) (Nat.le_refl _) _⟩
    rw [HW.out]
    exact hb.set _
  case done =>
    rintro D ys W hD rfl ⟨hb, hB⟩ hK
    have hc := hb.cell
    gi_wp2
    refine ⟨by simp, .inl ⟨_, _, rfl, run_takeDeferred hK, ?_⟩⟩
    exact ⟨_, results_tmp rfl _ _ _, rfl, hB.trans (belowK_b (w := w) (Nat.le_refl _) W D _ _ (by omega) hK rfl rfl)⟩
  case stop =>
    rintro D c pre W _ _ h _
    exact h.elim
set_option maxRecDepth 100000 in
theorem count_any (a b : Int) (A : Option Addr) (n c : Nat) (bs : List UInt8) (w : World) (hR : Row w A n bs) (hn : n ≤ 1000) :
    Calls Tryz.prog 68 #[.int .i64 a, .int .i64 b, .slice A n c] w fun e W' => e = .returned (.int .i64 ((Bt.all bs true a b).length : Int)) ∧ Below w.heap.size w W' :=
  callsIn_wide.1 (count_in a b A n c bs w hR hn)
set_option maxRecDepth 100000 in
set_option maxHeartbeats 2000000 in
theorem first_in (a b : Int) (A : Option Addr) (n c : Nat) (bs : List UInt8) (w : World) (hR : Row w A n bs) (hn : n ≤ 1000) :
    CallsIn Fence.wide 5 Tryz.prog 132 #[.int .i64 a, .int .i64 b, .slice A n c] w fun e W' => e = .returned (.int .i64 (Bt.first bs a b)) ∧ Below w.heap.size w W' := by
  have HR := Lib.hid hR; clear hR
  refine callsIn_of_wp_marks Tryz.func132 rfl trivial ?_ rfl
  simp only [Tryz.ntmps132, List.size_toArray, List.length_cons, List.length_nil, Nat.reduceAdd, Nat.reduceSub, Array.replicate_succ, Array.replicate_zero, List.push_toArray, List.append_toArray, List.nil_append, List.cons_append]
  gi_wp2_with (refine ⟨trivial, ?_⟩; gi_at_call 108; refine (callsIn_wide.2 (those_any _ _ _ _ _ _ _ hn)).mono ?_; rintro e w1 ⟨rfl, hT, hB, hsz⟩)
  simp only [World.size_alloc] at hT hB hsz
  have bN : Boxed w1 w.heap.size 3 (.int .i64 0) := (hB.block w.heap.size (by omega)).trans (Boxed.new w 3 (.int .i64 0))
  have hB0 : Below w.heap.size w w1 := ((Below.refl _ w).alloc (Nat.le_refl _) _).trans (hB.mono (by omega))
  have hlt := HR.out.lt
  refine wpIn_rangeFunc_ownG rfl (by omega) (gf := 143) (lb := #[.pointer (some ⟨w.heap.size + 1 + 1, 0, none⟩), .pointer (some ⟨w.heap.size + 1 + 2, 0, none⟩), .pointer (some ⟨w.heap.size + 1 + 3, 0, none⟩), .pointer (some ⟨w.heap.size + 1, 0, none⟩)]) rfl trivial (enters_of Tryz.func143 (by kernel_rfl) rfl)
    (those_stops (5 - 1) (by omega) (w.heap.size + 1) false a b A n c bs hn w1 (by omega) (HR.out.step hB0) hT) KeepsT.trans (KeepsT.putObj (by omega) (fun h0 b off e => by have := hlt h0 b off e; omega)) (Below.refl _ _) (fun _ => rfl)
    (fun pre W => (pre = [] ∧ Boxed W w.heap.size 3 (.int .i64 0)) ∧ Below w.heap.size w W)
    (fun c pre W => (c = .ret ∧ ∃ x : Nat, pre = [x] ∧ Boxed W w.heap.size 3 (.int .i64 (x : Int))) ∧ Below w.heap.size w W)
    (OwnFrom.and (Own.from (fun s X Y row hs hg hr => ⟨hs.1, boxed_own w.heap.size 3 (fun _ : Unit => .int .i64 0) () X Y row hs.2 hg hr⟩) _) (ownFrom_below (Nat.le_refl _) (by omega)))
    (fun c => OwnFrom.and (Own.from (fun s X Y row hs hg hr => by
      obtain ⟨h1, x, h2, h3⟩ := hs
      exact ⟨h1, x, h2, boxed_own w.heap.size 3 (fun _ : Unit => .int .i64 (x : Int)) () X Y row h3 hg hr⟩) _) (ownFrom_below (Nat.le_refl _) (by omega)))
    ⟨⟨rfl, bN⟩, hB0⟩
    (fun x => { tmps := #[.int .i64 a, .int .i64 b, .slice A n c, undef, undef, undef, .pointer (some ⟨w.heap.size, 0, none⟩), .int .i64 (x : Int), .int .i64 a, .int .i64 b, .slice A n c, thoseV (w.heap.size + 1), .int .i64 (x : Int), undef], defers := [] }) ?assign ?body ?done ?stop
  case assign =>
    intro l x W K hK
    gi_wp2
    exact hK
  case body =>
    rintro l pre x W ⟨⟨rfl, hb⟩, hB⟩ hlen
    have hc := hb.cell
    have hf := hb.frozen
    gi_wp2
    exact ⟨(KeepsOthers.setCell _ _ _).from _, ⟨rfl, x, rfl, hb.set _⟩, hB.setCell (p := ⟨w.heap.size, 0, none⟩) (Nat.le_refl _) _⟩
  case done =>
    rintro D ys W hD hys ⟨⟨hy0, hb⟩, hB⟩ hK
    have hc := hb.cell
    have hf := hb.frozen
    have HF : Hid (Bt.first bs a b = -1) := Lib.hid (Bt.first_none _ _ _ (hys.symm.trans hy0))
    clear hys hy0
    gi_wp2
    have hK' := (KeepsOthers.setCell W ⟨w.heap.size, 0, none⟩ (.int .i64 (-1))).same D _ hK rfl
    refine ⟨by simp, .inl ⟨_, _, rfl, run_takeDeferred hK', ?_⟩⟩
    have hc5 := cell_kept (hb.set (.int .i64 (-1))).cell (grownBy_putObj' _ D (.deferred none)) (fun r e => by cases e; exact ⟨_, hK', rfl⟩)
    refine ⟨.int .i64 (-1), ?_, by rw [HF.out], (hB.setCell (p := ⟨w.heap.size, 0, none⟩) (Nat.le_refl _) _).trans (belowK_b (w := w) (Nat.le_refl _) _ D _ _ (by omega) hK' rfl rfl)⟩
    simp [results, Tryz.f132, go_sem, hc5]
  case stop =>
    rintro D c pre W hD hpre ⟨⟨rfl, x, rfl, hb⟩, hB⟩ hK
    have HF := Lib.hid (Bt.first_some _ _ _ _ hpre)
    clear hpre
    gi_wp2
    refine ⟨by simp, .inl ⟨_, _, rfl, run_takeDeferred hK, ?_⟩⟩
    have hc5 := cell_kept hb.cell (grownBy_putObj' _ D (.deferred none)) (fun r e => by cases e; exact ⟨_, hK, rfl⟩)
    refine ⟨.int .i64 (x : Int), ?_, by rw [HF.out], hB.trans (belowK_b (w := w) (Nat.le_refl _) _ D _ _ (by omega) hK rfl rfl)⟩
    simp [results, Tryz.f132, go_sem, hc5]
set_option maxRecDepth 100000 in
theorem first_any (a b : Int) (A : Option Addr) (n c : Nat) (bs : List UInt8) (w : World) (hR : Row w A n bs) (hn : n ≤ 1000) :
    Calls Tryz.prog 132 #[.int .i64 a, .int .i64 b, .slice A n c] w fun e W' => e = .returned (.int .i64 (Bt.first bs a b)) ∧ Below w.heap.size w W' :=
  callsIn_wide.1 (first_in a b A n c bs w hR hn)
end Go.Proofs.YtncmihikpcdgoaaGreat

namespace Go.Proofs.YtncmihikpcdgoaaGreat
open Go.RowKit Go.Maps
open Dk (zeros zeros_length)
open Ii (Ino)
theorem isData_ok {s : Sto} {n I m : Int} (h : Vs s n I) (hm : Fs.isData n I m) : okP n m := by
  obtain ⟨b1, b2, b3, b4, b5, b6⟩ := h.bd
  unfold Fs.isData at hm
  exact ⟨by omega, by omega, by omega⟩
theorem Bt.first_bd (bs : List UInt8) (a b : Int) : Bt.first bs a b = -1 ∨ (0 ≤ Bt.first bs a b ∧ a ≤ Bt.first bs a b ∧ Bt.first bs a b < b) := by
  unfold Bt.first
  cases h : Bt.all bs false a b with
  | nil => exact Or.inl rfl
  | cons i l =>
    right
    have hi : i ∈ Bt.all bs false a b := by rw [h]; exact List.mem_cons_self ..
    unfold Bt.all Bt.upto at hi
    have := (List.mem_filter.1 hi).2
    unfold Bt.among at this
    simp only [Bool.and_eq_true, decide_eq_true_eq] at this
    refine ⟨Int.natCast_nonneg i, this.1.1, this.1.2⟩
theorem bits_ok {s : Sto} {n I : Int} (h : Vs s n I) : okP n 42 ∧ okP n 41 := by
  obtain ⟨b1, b2, b3, b4, b5, b6⟩ := h.bd
  exact ⟨⟨by omega, by omega, by omega⟩, ⟨by omega, by omega, by omega⟩⟩
set_option maxRecDepth 100000 in
set_option maxHeartbeats 2000000 in
theorem stake_step {w : World} {B : Nat} {b : Blk} {s : Sto} {n I : Int} (h : Ctx w B b s n I) : Calls Tryz.prog 94 #[.pointer (some ⟨B, 0, none⟩)] w (Ends B b n I [] w s (Fs.takeM n I) fun m e _ => e = .returned (.int .i64 m)) := by
  refine calls_of fun R H => ?_
  have r3 : (nv s 42).length = 64 := (h.vs.read (bits_ok h.vs).1).2.2
  have S := Lib.hid (Stp.start h (by simp) H)
  replace S := Lib.hid (Stp.saw S.out)
  have HDB : Hid (∀ w, Calls Tryz.prog 66 #[planV n I] w fun e w' => e = .returned (.int .i64 42) ∧ Below w.heap.size w w') := Lib.hid (fun w => by
    have := plDataBits_any n I w
    rw [if_pos h.vs.pl] at this
    exact this)
  have HRM := Lib.hid (fun w => plRoom_yes n I w h.vs.pl)
  have HL := Lib.hid r3
  have HOK := Lib.hid (bits_ok h.vs).1
  have hbl : (byteVals (nv s 42)).length = 64 := by rw [byteVals_length]; exact r3
  have HG : Hid (∀ W, Ctx W B b s n I → Calls Tryz.prog 87 #[.pointer (some ⟨B, 0, none⟩), .int .i64 42] W fun e w' => e = .returned (.agg (byteVals (nv s 42)).toArray) ∧ Below W.heap.size W w') := Lib.hid (fun W hc => spage_any hc 42 HOK.out)
  have HAT := Lib.hid (fun (k : Int) (h1 : 0 ≤ k) (h2 : k < n - Pl.dataN I) w => at_yes n I k w h.vs.pl h1 h2)
  have HPK := Lib.hid (fun (k : Int) (h1 : 0 ≤ k) (h2 : k < n - Pl.dataN I) => isData_ok (m := Pl.dataN I + k) h.vs (by unfold Fs.isData; omega))
  have hfb := Bt.first_bd (nv s 42) 0 (n - Pl.dataN I)
  have HFI : Hid (∀ W c g, Row W (some ⟨g, 0, none⟩) 1 (nv s 42) → Calls Tryz.prog 132 #[.int .i64 0, .int .i64 (n - Pl.dataN I), .slice (some ⟨g, 0, none⟩) 1 c] W fun e W' => e = .returned (.int .i64 (Bt.first (nv s 42) 0 (n - Pl.dataN I))) ∧ Below W.heap.size W W') := Lib.hid (fun W c g hr => first_any 0 _ _ 1 c (nv s 42) W hr (by omega))
  clear h H r3
  generalize nv s 42 = p at HL hbl HG hfb HFI S
  generalize Bt.first p 0 (n - Pl.dataN I) = k at hfb HFI S
  by_cases hk : k < 0
  · rw [if_pos hk] at S
    have gk : (decide (k < 0)) = true := decide_eq_true hk
    have HF : Hid (∀ W l, Lo [b.t] w l W → Ctx W B b s n I → Calls Tryz.prog 19 #[.pointer (some ⟨B, 0, none⟩), .int .i64 28] W fun e w' => e = .panicked [failE B] ∧ Broke w' B b s n I 28 ∧ Only [B] W w') := Lib.hid (fun W l _ hc => fail_any hc 28 (by decide))
    clear hfb hk HAT HPK
    go_enter Tryz.func94, Tryz.ntmps94
    go_wp2_with (first
      | (with_reducible refine wpList_load_plan (S.out.row).plan rfl (.tmp 9) rfl rfl ?_)
      | (with_reducible refine wpList_load_plan (S.out.row).plan rfl (.tmp 15) rfl rfl ?_)
      | (go_at_call 66; (with_reducible refine (HDB.out _).mono ?_); rintro e w1 ⟨rfl, hb⟩; replace S := Lib.hid (S.out.below hb); clear hb)
      | (go_at_call 67; (with_reducible refine (HRM.out _).mono ?_); rintro e w1 ⟨rfl, hb⟩; replace S := Lib.hid (S.out.below hb); clear hb)
      | (go_at_call 87; refine (HG.out _ S.out.ctx).mono ?_; rintro e w1 ⟨rfl, hb⟩; replace S := Lib.hid (S.out.below hb); clear hb))
    rw [fold_page rfl HL.out]
    generalize hw : World.alloc _ _ = w2
    replace S : Hid (Stp R B b n I [] w (fun m e _ => e = .returned (.int .i64 m)) [(w1.heap.size, byteVals p)] s (Fs.fail 28) w2) := Lib.hid (by rw [← hw]; exact S.out.alloc _ rfl (byteVals p) _)
    clear hw
    replace HFI := Lib.hid (HFI.out w2 1 w1.heap.size (row_of_page ((S.out.lo).page 0 rfl HL.out) (S.out.lo.lt 0 _ rfl)))
    go_wp2_with (first
      | (go_at_call 132; (with_reducible refine HFI.out.mono ?_); rintro e w3 ⟨rfl, hb⟩; replace S := Lib.hid (S.out.below hb); clear hb HFI)
      | (go_at_call 19; refine (HF.out _ _ S.out.lo S.out.ctx).mono ?_; rintro e w4 ⟨rfl, hB, hO⟩))
    exact ⟨rfl, S.out.fails (Fails.err rfl) (by decide) hB hO⟩
  · rw [if_neg hk] at S
    have gk : (decide (k < 0)) = false := decide_eq_false hk
    obtain ⟨hk1, _, hk2⟩ := hfb.resolve_left (by omega)
    replace HAT := Lib.hid (HAT.out k hk1 hk2)
    replace HPK := Lib.hid (HPK.out k hk1 hk2)
    clear hfb hk hk1 hk2
    generalize Pl.dataN I + k = m at HAT HPK S
    have c2 : w.cell? ⟨B, 0, none⟩ = some (.pointer (some ⟨b.s, 0, none⟩)) := S.out.cell0
    go_enter Tryz.func94, Tryz.ntmps94
    go_wp2_with (first
      | (with_reducible refine wpList_load_plan (S.out.row).plan rfl (.tmp 9) rfl rfl ?_)
      | (with_reducible refine wpList_load_plan (S.out.row).plan rfl (.tmp 15) rfl rfl ?_)
      | (with_reducible refine wpList_load_plan (S.out.row).plan rfl (.tmp 34) rfl rfl ?_)
      | (go_at_call 66; (with_reducible refine (HDB.out _).mono ?_); rintro e w1 ⟨rfl, hb⟩; replace S := Lib.hid (S.out.below hb); clear hb)
      | (go_at_call 67; (with_reducible refine (HRM.out _).mono ?_); rintro e w1 ⟨rfl, hb⟩; replace S := Lib.hid (S.out.below hb); clear hb)
      | (go_at_call 87; refine (HG.out _ S.out.ctx).mono ?_; rintro e w1 ⟨rfl, hb⟩; replace S := Lib.hid (S.out.below hb); clear hb))
    rw [fold_page rfl HL.out]
    generalize hw : World.alloc _ _ = w2
    replace S : Hid (Stp R B b n I [] w (fun m e _ => e = .returned (.int .i64 m)) [(w1.heap.size, byteVals p)] s (Fs.andThen (Fs.markM 42 k true) fun _ => Fs.andThen (Fs.wr m.toNat zeros) fun _ => Fs.ret m) w2) := Lib.hid (by rw [← hw]; exact S.out.alloc _ rfl (byteVals p) _)
    clear hw
    replace HFI := Lib.hid (HFI.out w2 1 w1.heap.size (row_of_page ((S.out.lo).page 0 rfl HL.out) (S.out.lo.lt 0 _ rfl)))
    go_wp2_with (first
      | (with_reducible refine wpList_load_plan (S.out.row).plan rfl (.tmp 34) rfl rfl ?_)
      | (go_at_call 132; (with_reducible refine HFI.out.mono ?_); rintro e w3 ⟨rfl, hb⟩; replace S := Lib.hid (S.out.below hb); clear hb HFI)
      | (go_at_call 46; refine (smark_step S.out.ctx 42 k true HOK.out).mono ?_; intro e w4 hE; rcases S.out.bind hE with ⟨rfl, hR⟩ | ⟨_, s2, L2, _, rfl, S2⟩; (exact ⟨rfl, hR⟩); clear S hE; have S := Lib.hid S2; clear S2)
      | (go_at_call 133; (with_reducible refine (HAT.out _).mono ?_); rintro e w1 ⟨rfl, hb⟩; replace S := Lib.hid (S.out.below hb); clear hb))
    rw [← zeroCells_def, show Value.agg zeroCells = pageV zeros from rfl]
    refine (sput_step S.out.ctx m zeros HPK.out zeros_length).mono ?_
    intro e w5 hE
    rcases S.out.bind hE with ⟨rfl, hR⟩ | ⟨_, s3, L3, _, rfl, S2⟩
    · exact ⟨rfl, hR⟩
    clear S hE
    have S := Lib.hid S2
    clear S2
    go_wp2_with fail
    exact S.out.done rfl
end Go.Proofs.YtncmihikpcdgoaaGreat

namespace Go.Proofs.YtncmihikpcdgoaaGreat
open Go.RowKit Go.Maps
open Dk (zeros zeros_length)
open Ii (Ino)
theorem IntRow.only {w w' : World} {A : Option Addr} {n : Nat} {xs : List Int} {L : List Nat} (h : IntRow w A n xs) (ho : Only L w w') (hA : ∀ b o, A = some ⟨b, o, none⟩ → b ∉ L) : IntRow w' A n xs where
  len := h.len
  small := h.small
  cells := fun h0 => by
    obtain ⟨b, off, rfl, hlt, hc⟩ := h.cells h0
    refine ⟨b, off, rfl, Nat.lt_of_lt_of_le hlt ho.size, fun i x hx => ?_⟩
    have := hc i x hx
    have hb := ho.block b hlt (hA b off rfl)
    unfold World.cell? at this ⊢
    rw [hb]; exact this
theorem Fs.take_ok {n I : Int} {V V' : Fs.View} {m : Int} {L : List Nat} (h : Fs.takeM n I V = (.ok m, V', L)) : Fs.isData n I m := by
  unfold Fs.takeM at h
  rw [Fs.andThen_ok (show Fs.see (fun V => Bt.first (V 42) 0 (n - Pl.dataN I)) V = (.ok (Bt.first (V 42) 0 (n - Pl.dataN I)), V, []) from rfl)] at h
  have hb := Bt.first_bd (V 42) 0 (n - Pl.dataN I)
  generalize Bt.first (V 42) 0 (n - Pl.dataN I) = k at h hb
  by_cases c : k < 0
  · rw [if_pos c] at h
    unfold Fs.fail at h
    injection h with h _
    cases h
  · rw [if_neg c] at h
    have e : m = Pl.dataN I + k := by
      unfold Fs.andThen Fs.markM Fs.wr Fs.ret at h
      simp at h
      exact h.1.symm
    unfold Fs.isData
    omega
theorem ino_set (x : Ino) (i m : Int) (hi : Sp.okB i = true) : (inoL x).set (offN i) (.int .i64 m) = inoL (Fs.setFirst x i m) := by
  unfold offN Fs.setFirst
  rcases Sp.kinds i with c | ⟨c1, c2⟩ | ⟨c1, c2⟩ | ⟨c1, c2⟩
  · rw [(Sp.no_page c).1] at hi; cases hi
  · obtain ⟨_, p2, _, p4⟩ := Sp.page0 c1 c2
    rw [p2, if_pos rfl, if_pos rfl, p4]
    obtain ⟨k, rfl⟩ := Int.eq_ofNat_of_zero_le c1
    rw [Int.toNat_natCast]
    have : k = 0 ∨ k = 1 ∨ k = 2 ∨ k = 3 := by omega
    rcases this with rfl | rfl | rfl | rfl <;> rfl
  · obtain ⟨_, p2, _, _⟩ := Sp.page1 c1 c2
    rw [p2, if_neg (by decide), if_pos rfl, if_neg (by decide), if_pos rfl]; rfl
  · obtain ⟨_, p2, _, _⟩ := Sp.page2 c1 c2
    rw [p2, if_neg (by decide), if_neg (by decide), if_neg (by decide), if_neg (by decide)]; rfl
theorem off_lt (i : Int) (hi : Sp.okB i = true) : offN i < 11 := by
  unfold offN
  rcases Sp.kinds i with c | ⟨c1, c2⟩ | ⟨c1, c2⟩ | ⟨c1, c2⟩
  · rw [(Sp.no_page c).1] at hi; cases hi
  · obtain ⟨_, p2, _, p4⟩ := Sp.page0 c1 c2
    rw [p2, if_pos rfl, p4]; omega
  · obtain ⟨_, p2, _, _⟩ := Sp.page1 c1 c2
    rw [p2, if_neg (by decide), if_pos rfl]; decide
  · obtain ⟨_, p2, _, _⟩ := Sp.page2 c1 c2
    rw [p2, if_neg (by decide), if_neg (by decide)]; decide
theorem first_set (x : Ino) (i m : Int) (hi : Sp.okB i = true) : Fs.firstN (Fs.setFirst x i m) i = m := by
  unfold Fs.firstN Fs.setFirst
  rw [if_pos hi]
  rcases Sp.kinds i with c | ⟨c1, c2⟩ | ⟨c1, c2⟩ | ⟨c1, c2⟩
  · rw [(Sp.no_page c).1] at hi; cases hi
  · obtain ⟨_, p2, _, p4⟩ := Sp.page0 c1 c2
    rw [p2, if_pos rfl, if_pos rfl, p4]
    obtain ⟨k, rfl⟩ := Int.eq_ofNat_of_zero_le c1
    rw [Int.toNat_natCast]
    have : k = 0 ∨ k = 1 ∨ k = 2 ∨ k = 3 := by omega
    rcases this with rfl | rfl | rfl | rfl <;> rfl
  · obtain ⟨_, p2, _, _⟩ := Sp.page1 c1 c2
    rw [p2, if_neg (by decide), if_pos rfl, if_neg (by decide), if_pos rfl]
  · obtain ⟨_, p2, _, _⟩ := Sp.page2 c1 c2
    rw [p2, if_neg (by decide), if_neg (by decide), if_neg (by decide), if_neg (by decide)]
/-- where a way's places lie -/
structure PlRow (w : World) (A : Option Addr) (n : Nat) (xs : List Int) (w0 : World) : Prop where
  row : IntRow w A n xs
  own : ∀ b o, A = some ⟨b, o, none⟩ → w0.heap.size ≤ b
theorem PlRow.step {w w' w0 : World} {A : Option Addr} {n : Nat} {xs : List Int} (h : PlRow w A n xs w0) (hb : Below w.heap.size w w') : PlRow w' A n xs w0 := ⟨h.row.step hb, h.own⟩
theorem PlRow.only {w w' w0 : World} {A : Option Addr} {n : Nat} {xs : List Int} {L : List Nat} (h : PlRow w A n xs w0) (ho : Only L w w') (hL : ∀ k ∈ L, k < w0.heap.size) : PlRow w' A n xs w0 :=
  ⟨h.row.only ho (fun b o hA q => by
    have := h.own b o hA
    have := hL b q
    omega), h.own⟩
theorem data_of {s : Sto} {n I y : Int} {p : List UInt8} {V : Fs.View} {L : List Nat} (v : Vs s n I) (h : Fs.tell (Fs.dataF n I y) (nv s) = (.ok p, V, L)) (hy : y ≠ 0) : Fs.isData n I y ∧ p.length = 64 := by
  have e : Fs.dataF n I y (nv s) = .ok p := by
    unfold Fs.tell at h
    injection h
  refine ⟨?_, data_len v e⟩
  unfold Fs.dataF at e
  rw [if_neg hy] at e
  by_cases c : Fs.isData n I y
  · exact c
  · rw [if_neg c] at e; cases e
theorem Fs.goR_cons (n I : Int) (k : Int) (ks : List Int) (m : Int) {β : Type} (g : Int → Fs.M β) : Fs.andThen (Fs.goR n I (k :: ks) m) g = Fs.andThen (Fs.tell (Fs.dataF n I m)) fun p =>
    if numN p k = 0 then Fs.andThen (Fs.takeM n I) fun t => Fs.andThen (Fs.wr m.toNat (setNum p k t)) fun _ => Fs.andThen (Fs.goR n I ks t) g
    else Fs.andThen (Fs.goR n I ks (numN p k)) g := by
  rw [Fs.goR, Fs.andThen_assoc]
  congr 1
  funext p
  split
  · rw [Fs.andThen_assoc]
    congr 1
    funext t
    rw [Fs.andThen_assoc]
  · rfl
set_option maxRecDepth 100000 in
set_option maxHeartbeats 4000000 in
theorem sreach_step {w : World} {B : Nat} {b : Blk} {s : Sto} {n I : Int} (h : Ctx w B b s n I) (X : Nat) (x : Ino) (hX : RowAt w X (inoL x)) (hXB : X ≠ B) (hXb : X ∉ b.all) (i : Int) (hi : Sp.okB i = true) : Calls Tryz.prog 52 #[.pointer (some ⟨B, 0, none⟩), .pointer (some ⟨X, 0, none⟩), .int .i64 i] w (Ends B b n I [X] w s (Fs.reachM n I x i) fun z e w' => e = .returned (.int .i64 z.2) ∧ RowAt w' X (inoL z.1)) := by
  refine calls_of fun R H => ?_
  have S := Lib.hid (Stp.start h (by simpa using hX.lt) H)
  have HX := Lib.hid hX
  have HXB := Lib.hid hXB
  have HXb := Lib.hid hXb
  have HT : Hid (b.t < w.heap.size) := Lib.hid (h.store.lt _ b.t_mem)
  have HXL : Hid (X < w.heap.size) := Lib.hid hX.lt
  have HXT : Hid (X ≠ b.t) := Lib.hid (fun q => hXb (q ▸ b.t_mem))
  have HW := Lib.hid (way_yes X i w hi)
  have HFC := Lib.hid (fun (W : World) (y : Ino) (hy : RowAt W X (inoL y)) => first_cell hy i hi)
  have HOF := Lib.hid (off_lt i hi)
  have HSF := Lib.hid (fun m => ino_set x i m hi)
  have HFS := Lib.hid (fun m => first_set x i m hi)
  have hl2 := places_len i
  unfold WayYes at HW
  unfold Fs.reachM at S
  clear h H hX hXB hXb hi
  generalize Fs.placesN i = ks at HW hl2 S
  generalize offN i = o at HW HFC HOF HSF
  obtain ⟨len, hlen⟩ : ∃ len, ks.length = len := ⟨_, rfl⟩
  have HLE := Lib.hid hlen
  rw [hlen] at hl2 HW
  clear hlen
  by_cases h0 : Fs.firstN x i = 0
  · rw [if_pos h0] at S
    have hc0 : ∀ (W : World), RowAt W X (inoL x) → W.cell? ⟨X, o, none⟩ = some (.int .i64 0) := fun W hy => by
      have := HFC.out W x hy
      rw [h0] at this
      exact this
    have HC0 := Lib.hid hc0
    clear hc0 h0
    go_enter Tryz.func52, Tryz.ntmps52
    go_wp2_with (first
      | (go_at_call 93; (with_reducible refine HW.out.mono ?_); rintro e w2 ⟨A, c, rfl, hR, hb, hA⟩; replace S := Lib.hid (S.out.below hb); have HRW : Hid (PlRow w2 A len ks w) := Lib.hid ⟨hR, hA⟩; replace HX := Lib.hid (HX.out.step hb); have cF := HC0.out w2 HX.out; clear hR hb hA)
      | (go_at_call 94; go_loud ((with_reducible refine (stake_step S.out.ctx).mono ?_); intro e w3 hE; rcases S.out.bindO hE with ⟨rfl, hR⟩ | ⟨m, s2, L2, hm, rfl, S2, hO⟩; (exact ⟨rfl, hR⟩); replace HX := Lib.hid (HX.out.only hO (by simpa using HXT.out)); replace HRW := Lib.hid (HRW.out.only hO (by simpa using HT.out)); have HM := Lib.hid (data_ok S.out.ctx.vs (Fs.take_ok hm)).2; clear S hE hO hm; have S := Lib.hid S2; clear S2 cF; have cF := HC0.out w3 HX.out; have fF := HX.out.frozen o HOF.out)))
    obtain ⟨z, hz⟩ : ∃ z, z = Fs.setFirst x i m := ⟨_, rfl⟩
    have HX2 : Hid (RowAt (w3.setCell ⟨X, o, none⟩ (.int .i64 m)) X (inoL z)) := Lib.hid (by
      rw [hz, ← HSF.out m]
      exact RowAt.setOne HX.out o (.int .i64 m) HOF.out)
    rw [← hz] at S
    have S2 := Lib.hid (S.out.setX (X := X) (by simp) HXB.out HXb.out o (.int .i64 m) (by simp))
    replace HRW := Lib.hid (HRW.out.only ((Only.refl [X] w3).setCell (p := ⟨X, o, none⟩) (by simp) (.int .i64 m)) (by simpa using HXL.out))
    have HY0 : Hid (m ≠ 0) := HM
    clear S HX hz
    generalize World.setCell _ _ _ = w4 at S2 HX2 HRW ⊢
    have S := Lib.hid S2.out
    have HX := Lib.hid HX2.out
    clear cF fF HM S2 HX2
    go_loopw [9, 33] (fun m i wr => ∃ (k : Nat) (y : Int) (s' : Sto), k ≤ len ∧ i = .int .i64 k ∧ m = .int .i64 y ∧ Hid (y ≠ 0) ∧ Hid (Stp R B b n I [X] w (fun (z : Ino × Int) e w' => e = .returned (.int .i64 z.2) ∧ RowAt w' X (inoL z.1)) [] s' (Fs.andThen (Fs.goR n I (ks.drop k) y) fun t => Fs.ret (z, t)) wr) ∧ Hid (RowAt wr X (inoL z)) ∧ Hid (PlRow wr A len ks w)) (fun _ i _ => len - (intOf i).toNat)
    case atStart => exact ⟨0, m, _, Nat.zero_le _, rfl, rfl, HY0, S, HX, HRW⟩
    case round =>
      clear S HX HRW HY0
      obtain ⟨k, y, s3, hk, rfl, rfl, HY, S, HX, HRW⟩ := hrel
      by_cases hlt : k < len
      · obtain ⟨bb, off, rfl, hbb, hcc⟩ := HRW.out.row.cells (by omega)
        obtain ⟨kk, hkk⟩ : ∃ kk, ks[k]? = some kk := ⟨_, List.getElem?_eq_getElem (by rw [HLE.out]; exact hlt)⟩
        have ck := hcc k kk hkk
        have HDR : Hid (ks.drop k = kk :: ks.drop (k + 1)) := Lib.hid (by
          obtain ⟨q1, q2⟩ := List.getElem?_eq_some_iff.1 hkk
          rw [List.drop_eq_getElem_cons q1, q2])
        clear hcc hkk hbb
        rw [HDR.out, Fs.goR_cons] at S
        go_wp2_with fail
        refine (smustData_any S.out.ctx y).mono ?_
        intro e w6 hE
        rcases S.out.bindO hE with ⟨rfl, hR⟩ | ⟨p, s4, L4, hp, rfl, S2, hO⟩
        · exact ⟨rfl, hR⟩
        obtain ⟨hd1, hd2⟩ := data_of S.out.ctx.vs hp HY.out
        have HDL := Lib.hid hd2
        have HOK := Lib.hid (data_ok S.out.ctx.vs hd1).1
        replace HX := Lib.hid (HX.out.only hO (by simpa using HXT.out))
        replace HRW := Lib.hid (HRW.out.only hO (by simpa using HT.out))
        clear S hE hO hp hd1 hd2 ck
        have S := Lib.hid S2
        clear S2
        have HNU := Lib.hid (fun W => number_any p kk W HDL.out)
        by_cases hn : numN p kk = 0
        · rw [if_pos hn] at S
          rw [hn] at HNU
          have HSN := Lib.hid (fun t W => setNumber_any p kk t W HDL.out)
          clear hn
          go_wp2_with (first
            | ((with_reducible refine wpList_store_new rfl (.tmp 12) (.tmp 39) rfl rfl ?_ ?_ HDL.out ?_); (exact rfl); (exact rfl); intro W2 hP hB2 hz2; replace S := Lib.hid (S.out.made hP.rowAt hB2 hz2); replace HX := Lib.hid (HX.out.step hB2); replace HRW := Lib.hid (HRW.out.step hB2); clear hP hB2 hz2)
            | (with_reducible refine wpList_load_page (S.out.lo.page 0 rfl HDL.out) rfl (.tmp 12) rfl rfl ?_)
            | (go_at_call 95; (with_reducible refine (HNU.out _).mono ?_); rintro e w7 ⟨rfl, hb⟩; replace S := Lib.hid (S.out.below hb); replace HX := Lib.hid (HX.out.step hb); replace HRW := Lib.hid (HRW.out.step hb); clear hb)
            | (go_at_call 94; (with_reducible refine (stake_step S.out.ctx).mono ?_); intro e w8 hE; rcases S.out.bindO hE with ⟨rfl, hR⟩ | ⟨t, s5, L5, hm, rfl, S2, hO⟩; (exact ⟨rfl, hR⟩); replace HX := Lib.hid (HX.out.only hO (by simpa using HXT.out)); replace HRW := Lib.hid (HRW.out.only hO (by simpa using HT.out)); have HM := Lib.hid (data_ok S.out.ctx.vs (Fs.take_ok hm)).2; clear S hE hO hm; have S := Lib.hid S2; clear S2)
            | (go_at_call 96; (with_reducible refine (HSN.out _ _).mono ?_); rintro e w9 ⟨rfl, hb⟩; replace S := Lib.hid (S.out.below hb); replace HX := Lib.hid (HX.out.step hb); replace HRW := Lib.hid (HRW.out.step hb); clear hb)
            | (go_at_call 53; (with_reducible refine (sput_step S.out.ctx y (setNum p kk t) HOK.out (by rw [setNum_length]; exact HDL.out)).mono ?_); intro e w8 hE; rcases S.out.bindO hE with ⟨rfl, hR⟩ | ⟨_, s6, L6, _, rfl, S2, hO⟩; (exact ⟨rfl, hR⟩); replace HX := Lib.hid (HX.out.only hO (by simpa using HXT.out)); replace HRW := Lib.hid (HRW.out.only hO (by simpa using HT.out)); clear S hE hO; have S := Lib.hid S2; clear S2))
          go_roundw
          case rel => exact ⟨k + 1, t, s6, by omega, by go_num, rfl, HM, Lib.hid (S.out.cut 0), HX, HRW⟩
          case measure => simp [intOf]; omega
        · have gn : (numN p kk == 0) = false := by simpa using hn
          have HM := Lib.hid hn
          rw [if_neg hn] at S
          clear hn
          go_wp2_with (first
            | ((with_reducible refine wpList_store_new rfl (.tmp 12) (.tmp 39) rfl rfl ?_ ?_ HDL.out ?_); (exact rfl); (exact rfl); intro W2 hP hB2 hz2; replace S := Lib.hid (S.out.made hP.rowAt hB2 hz2); replace HX := Lib.hid (HX.out.step hB2); replace HRW := Lib.hid (HRW.out.step hB2); clear hP hB2 hz2)
            | (with_reducible refine wpList_load_page (S.out.lo.page 0 rfl HDL.out) rfl (.tmp 12) rfl rfl ?_)
            | (go_at_call 95; (with_reducible refine (HNU.out _).mono ?_); rintro e w7 ⟨rfl, hb⟩; replace S := Lib.hid (S.out.below hb); replace HX := Lib.hid (HX.out.step hb); replace HRW := Lib.hid (HRW.out.step hb); clear hb))
          go_roundw
          case rel => exact ⟨k + 1, _, s4, by omega, by go_num, rfl, HM, Lib.hid (S.out.cut 0), HX, HRW⟩
          case measure => simp [intOf]; omega
      · obtain rfl : k = len := by omega
        have HZ : Hid (ks.drop k = []) := Lib.hid (List.drop_of_length_le (by rw [HLE.out]; omega))
        rw [HZ.out] at S
        go_wp2_with fail
        exact S.out.done ⟨rfl, HX.out⟩
  · rw [if_neg h0] at S
    have gk0 : (Fs.firstN x i == 0) = false := by simpa using h0
    have HY0 := Lib.hid h0
    clear h0 HSF HFS
    have HC0 := Lib.hid (fun (W : World) (hy : RowAt W X (inoL x)) => HFC.out W x hy)
    clear HFC
    generalize Fs.firstN x i = m at S gk0 HY0 HC0
    go_enter Tryz.func52, Tryz.ntmps52
    go_wp2_with (go_at_call 93; (with_reducible refine HW.out.mono ?_); rintro e w2 ⟨A, c, rfl, hR, hb, hA⟩; replace S := Lib.hid (S.out.below hb); have HRW : Hid (PlRow w2 A len ks w) := Lib.hid ⟨hR, hA⟩; replace HX := Lib.hid (HX.out.step hb); have cF := HC0.out w2 HX.out; clear hR hb hA)
    clear cF HW HC0
    obtain ⟨z, rfl⟩ : ∃ z, z = x := ⟨_, rfl⟩
    go_loopw [9, 33] (fun m i wr => ∃ (k : Nat) (y : Int) (s' : Sto), k ≤ len ∧ i = .int .i64 k ∧ m = .int .i64 y ∧ Hid (y ≠ 0) ∧ Hid (Stp R B b n I [X] w (fun (z : Ino × Int) e w' => e = .returned (.int .i64 z.2) ∧ RowAt w' X (inoL z.1)) [] s' (Fs.andThen (Fs.goR n I (ks.drop k) y) fun t => Fs.ret (z, t)) wr) ∧ Hid (RowAt wr X (inoL z)) ∧ Hid (PlRow wr A len ks w)) (fun _ i _ => len - (intOf i).toNat)
    case atStart => exact ⟨0, m, _, Nat.zero_le _, rfl, rfl, HY0, S, HX, HRW⟩
    case round =>
      clear S HX HRW HY0
      obtain ⟨k, y, s3, hk, rfl, rfl, HY, S, HX, HRW⟩ := hrel
      by_cases hlt : k < len
      · obtain ⟨bb, off, rfl, hbb, hcc⟩ := HRW.out.row.cells (by omega)
        obtain ⟨kk, hkk⟩ : ∃ kk, ks[k]? = some kk := ⟨_, List.getElem?_eq_getElem (by rw [HLE.out]; exact hlt)⟩
        have ck := hcc k kk hkk
        have HDR : Hid (ks.drop k = kk :: ks.drop (k + 1)) := Lib.hid (by
          obtain ⟨q1, q2⟩ := List.getElem?_eq_some_iff.1 hkk
          rw [List.drop_eq_getElem_cons q1, q2])
        clear hcc hkk hbb
        rw [HDR.out, Fs.goR_cons] at S
        go_wp2_with fail
        refine (smustData_any S.out.ctx y).mono ?_
        intro e w6 hE
        rcases S.out.bindO hE with ⟨rfl, hR⟩ | ⟨p, s4, L4, hp, rfl, S2, hO⟩
        · exact ⟨rfl, hR⟩
        obtain ⟨hd1, hd2⟩ := data_of S.out.ctx.vs hp HY.out
        have HDL := Lib.hid hd2
        have HOK := Lib.hid (data_ok S.out.ctx.vs hd1).1
        replace HX := Lib.hid (HX.out.only hO (by simpa using HXT.out))
        replace HRW := Lib.hid (HRW.out.only hO (by simpa using HT.out))
        clear S hE hO hp hd1 hd2 ck
        have S := Lib.hid S2
        clear S2
        have HNU := Lib.hid (fun W => number_any p kk W HDL.out)
        by_cases hn : numN p kk = 0
        · rw [if_pos hn] at S
          rw [hn] at HNU
          have HSN := Lib.hid (fun t W => setNumber_any p kk t W HDL.out)
          clear hn
          go_wp2_with (first
            | ((with_reducible refine wpList_store_new rfl (.tmp 12) (.tmp 39) rfl rfl ?_ ?_ HDL.out ?_); (exact rfl); (exact rfl); intro W2 hP hB2 hz2; replace S := Lib.hid (S.out.made hP.rowAt hB2 hz2); replace HX := Lib.hid (HX.out.step hB2); replace HRW := Lib.hid (HRW.out.step hB2); clear hP hB2 hz2)
            | (with_reducible refine wpList_load_page (S.out.lo.page 0 rfl HDL.out) rfl (.tmp 12) rfl rfl ?_)
            | (go_at_call 95; (with_reducible refine (HNU.out _).mono ?_); rintro e w7 ⟨rfl, hb⟩; replace S := Lib.hid (S.out.below hb); replace HX := Lib.hid (HX.out.step hb); replace HRW := Lib.hid (HRW.out.step hb); clear hb)
            | (go_at_call 94; (with_reducible refine (stake_step S.out.ctx).mono ?_); intro e w8 hE; rcases S.out.bindO hE with ⟨rfl, hR⟩ | ⟨t, s5, L5, hm, rfl, S2, hO⟩; (exact ⟨rfl, hR⟩); replace HX := Lib.hid (HX.out.only hO (by simpa using HXT.out)); replace HRW := Lib.hid (HRW.out.only hO (by simpa using HT.out)); have HM := Lib.hid (data_ok S.out.ctx.vs (Fs.take_ok hm)).2; clear S hE hO hm; have S := Lib.hid S2; clear S2)
            | (go_at_call 96; (with_reducible refine (HSN.out _ _).mono ?_); rintro e w9 ⟨rfl, hb⟩; replace S := Lib.hid (S.out.below hb); replace HX := Lib.hid (HX.out.step hb); replace HRW := Lib.hid (HRW.out.step hb); clear hb)
            | (go_at_call 53; (with_reducible refine (sput_step S.out.ctx y (setNum p kk t) HOK.out (by rw [setNum_length]; exact HDL.out)).mono ?_); intro e w8 hE; rcases S.out.bindO hE with ⟨rfl, hR⟩ | ⟨_, s6, L6, _, rfl, S2, hO⟩; (exact ⟨rfl, hR⟩); replace HX := Lib.hid (HX.out.only hO (by simpa using HXT.out)); replace HRW := Lib.hid (HRW.out.only hO (by simpa using HT.out)); clear S hE hO; have S := Lib.hid S2; clear S2))
          go_roundw
          case rel => exact ⟨k + 1, t, s6, by omega, by go_num, rfl, HM, Lib.hid (S.out.cut 0), HX, HRW⟩
          case measure => simp [intOf]; omega
        · have gn : (numN p kk == 0) = false := by simpa using hn
          have HM := Lib.hid hn
          rw [if_neg hn] at S
          clear hn
          go_wp2_with (first
            | ((with_reducible refine wpList_store_new rfl (.tmp 12) (.tmp 39) rfl rfl ?_ ?_ HDL.out ?_); (exact rfl); (exact rfl); intro W2 hP hB2 hz2; replace S := Lib.hid (S.out.made hP.rowAt hB2 hz2); replace HX := Lib.hid (HX.out.step hB2); replace HRW := Lib.hid (HRW.out.step hB2); clear hP hB2 hz2)
            | (with_reducible refine wpList_load_page (S.out.lo.page 0 rfl HDL.out) rfl (.tmp 12) rfl rfl ?_)
            | (go_at_call 95; (with_reducible refine (HNU.out _).mono ?_); rintro e w7 ⟨rfl, hb⟩; replace S := Lib.hid (S.out.below hb); replace HX := Lib.hid (HX.out.step hb); replace HRW := Lib.hid (HRW.out.step hb); clear hb))
          go_roundw
          case rel => exact ⟨k + 1, _, s4, by omega, by go_num, rfl, HM, Lib.hid (S.out.cut 0), HX, HRW⟩
          case measure => simp [intOf]; omega
      · obtain rfl : k = len := by omega
        have HZ : Hid (ks.drop k = []) := Lib.hid (List.drop_of_length_le (by rw [HLE.out]; omega))
        rw [HZ.out] at S
        go_wp2_with fail
        exact S.out.done ⟨rfl, HX.out⟩
end Go.Proofs.YtncmihikpcdgoaaGreat

namespace Go.Proofs.YtncmihikpcdgoaaGreat
open Go.RowKit Go.Maps
open Dk (zeros zeros_length)
open Ii (Ino)
/-- a bit is cleared: ahead of it, and behind it -/
def MarkS {α : Type} (R : Ending → World → Prop) (B : Nat) (b : Blk) (n I : Int) (w0 : World) (K : α → Ending → World → Prop) (s : Sto) (m1 : Fs.M Unit) (f : Unit → Fs.M α) (k : Bool) (W : World) : Prop :=
  if k = true then ∃ s', Stp R B b n I [] w0 K [] s' (f ()) W else Stp R B b n I [] w0 K [] s (Fs.andThen m1 f) W
theorem MarkS.row {α : Type} {R : Ending → World → Prop} {B : Nat} {b : Blk} {n I : Int} {w0 : World} {K : α → Ending → World → Prop} {s : Sto} {m1 : Fs.M Unit} {f : Unit → Fs.M α} {k : Bool} {W : World} (h : MarkS R B b n I w0 K s m1 f k W) : W.rangeAt B 1 (planL n I) := by
  cases k with
  | true => obtain ⟨s', h⟩ : ∃ s', Stp R B b n I [] w0 K [] s' (f ()) W := h; exact h.row.plan
  | false => have h : Stp R B b n I [] w0 K [] s (Fs.andThen m1 f) W := h; exact h.row.plan
theorem MarkS.below {α : Type} {R : Ending → World → Prop} {B : Nat} {b : Blk} {n I : Int} {w0 : World} {K : α → Ending → World → Prop} {s : Sto} {m1 : Fs.M Unit} {f : Unit → Fs.M α} {k : Bool} {W W' : World} (h : MarkS R B b n I w0 K s m1 f k W) (hb : Below W.heap.size W W') : MarkS R B b n I w0 K s m1 f k W' := by
  cases k with
  | true => obtain ⟨s', h⟩ : ∃ s', Stp R B b n I [] w0 K [] s' (f ()) W := h; exact ⟨s', h.below hb⟩
  | false => have h : Stp R B b n I [] w0 K [] s (Fs.andThen m1 f) W := h; exact h.below hb
theorem MarkS.done {α : Type} {R : Ending → World → Prop} {B : Nat} {b : Blk} {n I : Int} {w0 : World} {K : α → Ending → World → Prop} {s : Sto} {m1 : Fs.M Unit} {f : Unit → Fs.M α} {W : World} (h : MarkS R B b n I w0 K s m1 f true W) : ∃ s', Stp R B b n I [] w0 K [] s' (f ()) W := h
set_option maxRecDepth 100000 in
set_option maxHeartbeats 2000000 in
theorem scut_0 {w : World} {B : Nat} {b : Blk} {s : Sto} {n I : Int} (h : Ctx w B b s n I) (m frm : Int) : Calls Tryz.prog 92 #[.pointer (some ⟨B, 0, none⟩), .int .i64 m, .int .i64 1, .int .i64 frm] w (Ends B b n I [] w s (Fs.cutM n I 0 m frm) fun y e _ => e = .returned (.int .i64 y)) := by
  refine calls_of fun R H => ?_
  have S := Lib.hid (Stp.start h (by simp) H)
  have HOK := Lib.hid (bits_ok h.vs).1
  have HDB : Hid (∀ w, Calls Tryz.prog 66 #[.agg (planL n I).toArray] w fun e w' => e = .returned (.int .i64 42) ∧ Below w.heap.size w w') := Lib.hid (fun w => by
    have := plDataBits_any n I w
    rw [if_pos h.vs.pl] at this
    exact this)
  unfold Fs.cutM at S
  by_cases c1 : 1 ≤ frm
  · rw [if_pos c1] at S
    clear h H
    go_enter Tryz.func92, Tryz.ntmps92
    go_wp2_with fail
    exact S.out.done rfl
  · rw [if_neg c1] at S
    by_cases c2 : Fs.isData n I m
    · rw [if_pos c2] at S
      have HBI : Hid (∀ w, Calls Tryz.prog 129 #[.agg (planL n I).toArray, .int .i64 m] w fun e w' => e = .returned (.int .i64 (m - Pl.dataN I)) ∧ Below w.heap.size w w') := Lib.hid (fun w => bit_yes n I m w h.vs.pl c2.1 c2.2)
      have g2 : decide (m - Pl.dataN I < 0) = false := decide_eq_false (by have := c2.1; omega)
      clear h H c2
      go_enter Tryz.func92, Tryz.ntmps92
      go_wp2_with (first
        | (with_reducible refine wpList_load_plan (S.out.row).plan rfl (.tmp 16) rfl rfl ?_)
        | (go_at_call 129; refine (HBI.out _).mono ?_; rintro e w1 ⟨rfl, hb⟩; replace S := Lib.hid (S.out.below hb); clear hb))
      refine wp_region_linp (MarkS R B b n I w (fun (y : Int) e _ => e = .returned (.int .i64 y)) s (Fs.markM 42 (m - Pl.dataN I) false) (fun _ => Fs.ret (0 : Int))) (fun ch W => ch = [failE B] ∧ R (.panicked [failE B]) W) (fun i => i == 14) (fun i => [.pointer (some ⟨B, 0, none⟩), .pointer (some ⟨B, 0, none⟩), .pointer (some ⟨B, 0, none⟩), .pointer (some ⟨B, 0, none⟩), .pointer (some ⟨B, 1, none⟩), .agg (planL n I).toArray, .int .i64 42, .pointer (some ⟨B, 0, none⟩), .pointer (some ⟨B, 0, none⟩), .pointer (some ⟨B, 0, none⟩), .pointer (some ⟨B, 1, none⟩), .agg (planL n I).toArray, .int .i64 m, .int .i64 (m - Pl.dataN I)].getD i undef) false (by kernel_rfl) (by kernel_rfl) (fun ch a' W hd hh => ?_) S.out.drew ?_
      · exact ⟨hd, by obtain ⟨rfl, hR⟩ := hh; exact hR⟩
      refine linp_step (i := 0) (d := some 35) (v := (.pointer (some ⟨B, 0, none⟩))) rfl rfl (by kernel_rfl) (by kernel_rfl) rfl rfl (ord_value (by kernel_rfl) ?_) ?_
      · ((intro _ _ _; go_simp) <;> kernel_rfl)
      try simp only [Act.put, List.setIfInBounds_toArray, List.set_cons_zero, List.set_cons_succ]
      refine linp_step (i := 1) (d := some 36) (v := (.pointer (some ⟨B, 0, none⟩))) rfl rfl (by kernel_rfl) (by kernel_rfl) rfl rfl (ord_value (by kernel_rfl) ?_) ?_
      · ((intro _ _ _; go_simp) <;> kernel_rfl)
      try simp only [Act.put, List.setIfInBounds_toArray, List.set_cons_zero, List.set_cons_succ]
      refine linp_step (i := 2) (d := some 37) (v := (.pointer (some ⟨B, 0, none⟩))) rfl rfl (by kernel_rfl) (by kernel_rfl) rfl rfl (ord_value (by kernel_rfl) ?_) ?_
      · ((intro _ _ _; go_simp) <;> kernel_rfl)
      try simp only [Act.put, List.setIfInBounds_toArray, List.set_cons_zero, List.set_cons_succ]
      refine linp_step (i := 3) (d := some 38) (v := (.pointer (some ⟨B, 0, none⟩))) rfl rfl (by kernel_rfl) (by kernel_rfl) rfl rfl (ord_value (by kernel_rfl) ?_) ?_
      · ((intro _ _ _; go_simp) <;> kernel_rfl)
      try simp only [Act.put, List.setIfInBounds_toArray, List.set_cons_zero, List.set_cons_succ]
      refine linp_step (i := 4) (d := some 39) (v := (.pointer (some ⟨B, 1, none⟩))) rfl rfl (by kernel_rfl) (by kernel_rfl) rfl rfl (ord_value (by kernel_rfl) ?_) ?_
      · ((intro _ _ _; go_simp) <;> kernel_rfl)
      try simp only [Act.put, List.setIfInBounds_toArray, List.set_cons_zero, List.set_cons_succ]
      refine linp_step (i := 5) (d := some 40) (v := (.agg (planL n I).toArray)) rfl rfl (by kernel_rfl) (by kernel_rfl) rfl rfl (ord_mid loads_plan (by kernel_rfl) (.tmp 39) rfl rfl (fun _ W hS => MarkS.row hS)) ?_
      try simp only [Act.put, List.setIfInBounds_toArray, List.set_cons_zero, List.set_cons_succ]
      refine linp_step (i := 6) (d := some 41) (v := (.int .i64 42)) rfl rfl (by kernel_rfl) (by kernel_rfl) rfl rfl (ord_call (f := 66) (args := #[.agg (planL n I).toArray]) (by kernel_rfl) ?_ (fun _ W hS => (HDB.out W).mono fun e w' hh => ⟨hh.1, MarkS.below hS hh.2⟩)) ?_
      · (intro _; go_simp)
      try simp only [Act.put, List.setIfInBounds_toArray, List.set_cons_zero, List.set_cons_succ]
      refine linp_step (i := 7) (d := some 42) (v := (.pointer (some ⟨B, 0, none⟩))) rfl rfl (by kernel_rfl) (by kernel_rfl) rfl rfl (ord_value (by kernel_rfl) ?_) ?_
      · ((intro _ _ _; go_simp) <;> kernel_rfl)
      try simp only [Act.put, List.setIfInBounds_toArray, List.set_cons_zero, List.set_cons_succ]
      refine linp_step (i := 8) (d := some 43) (v := (.pointer (some ⟨B, 0, none⟩))) rfl rfl (by kernel_rfl) (by kernel_rfl) rfl rfl (ord_value (by kernel_rfl) ?_) ?_
      · ((intro _ _ _; go_simp) <;> kernel_rfl)
      try simp only [Act.put, List.setIfInBounds_toArray, List.set_cons_zero, List.set_cons_succ]
      refine linp_step (i := 9) (d := some 44) (v := (.pointer (some ⟨B, 0, none⟩))) rfl rfl (by kernel_rfl) (by kernel_rfl) rfl rfl (ord_value (by kernel_rfl) ?_) ?_
      · ((intro _ _ _; go_simp) <;> kernel_rfl)
      try simp only [Act.put, List.setIfInBounds_toArray, List.set_cons_zero, List.set_cons_succ]
      refine linp_step (i := 10) (d := some 45) (v := (.pointer (some ⟨B, 1, none⟩))) rfl rfl (by kernel_rfl) (by kernel_rfl) rfl rfl (ord_value (by kernel_rfl) ?_) ?_
      · ((intro _ _ _; go_simp) <;> kernel_rfl)
      try simp only [Act.put, List.setIfInBounds_toArray, List.set_cons_zero, List.set_cons_succ]
      refine linp_step (i := 11) (d := some 46) (v := (.agg (planL n I).toArray)) rfl rfl (by kernel_rfl) (by kernel_rfl) rfl rfl (ord_mid loads_plan (by kernel_rfl) (.tmp 45) rfl rfl (fun _ W hS => MarkS.row hS)) ?_
      try simp only [Act.put, List.setIfInBounds_toArray, List.set_cons_zero, List.set_cons_succ]
      refine linp_step (i := 12) (d := some 47) (v := (.int .i64 m)) rfl rfl (by kernel_rfl) (by kernel_rfl) rfl rfl (ord_value (by kernel_rfl) ?_) ?_
      · ((intro _ _ _; go_simp) <;> kernel_rfl)
      try simp only [Act.put, List.setIfInBounds_toArray, List.set_cons_zero, List.set_cons_succ]
      refine linp_step (i := 13) (d := some 48) (v := (.int .i64 (m - Pl.dataN I))) rfl rfl (by kernel_rfl) (by kernel_rfl) rfl rfl (ord_call (f := 129) (args := #[.agg (planL n I).toArray, .int .i64 m]) (by kernel_rfl) ?_ (fun _ W hS => (HBI.out W).mono fun e w' hh => ⟨hh.1, MarkS.below hS hh.2⟩)) ?_
      · (intro _; go_simp)
      try simp only [Act.put, List.setIfInBounds_toArray, List.set_cons_zero, List.set_cons_succ]
      refine linp_turn (i := 14) (d := some 49) (fun u k => u = .tuple #[] ∧ k = true) rfl rfl (by kernel_rfl) (by kernel_rfl) rfl (by kernel_rfl) ⟨_, _, rfl, rfl⟩ (by kernel_rfl) (gives_all (f := 46) (args := #[.pointer (some ⟨B, 0, none⟩), .int .i64 42, .int .i64 (m - Pl.dataN I), .bool false]) ?_ (fun W hS => (smark_step (Stp.ctx hS) 42 (m - Pl.dataN I) false HOK.out).mono fun e w' hE => by
        rcases Stp.bind hS hE with ⟨rfl, hR⟩ | ⟨_, s', L', _, rfl, S2⟩
        · exact Or.inr ⟨_, rfl, rfl, hR⟩
        · exact Or.inl ⟨_, rfl, true, ⟨rfl, rfl⟩, s', S2⟩)) ?_
      · (intro _; go_simp)
      rintro _ _ ⟨rfl, rfl⟩
      try simp only [Act.put, List.setIfInBounds_toArray, List.set_cons_zero, List.set_cons_succ]
      refine linp_done (by kernel_rfl) fun W hS => ?_
      obtain ⟨s5, S5⟩ := MarkS.done hS
      clear S
      have S := Lib.hid S5
      clear S5 hS
      go_wp2_with fail
      exact S.out.done rfl
    · rw [if_neg c2, if_neg (by omega)] at S
      have HBI : Hid (∀ w, Calls Tryz.prog 129 #[.agg (planL n I).toArray, .int .i64 m] w fun e w' => e = .returned (.int .i64 (-1)) ∧ Below w.heap.size w w') := Lib.hid (fun w => bit_no n I m w h.vs.pl (by unfold Fs.isData at c2; omega))
      clear h H c2
      go_enter Tryz.func92, Tryz.ntmps92
      go_wp2_with (first
        | (with_reducible refine wpList_load_plan (S.out.row).plan rfl (.tmp 16) rfl rfl ?_)
        | (go_at_call 129; refine (HBI.out _).mono ?_; rintro e w1 ⟨rfl, hb⟩; replace S := Lib.hid (S.out.below hb); clear hb))
      exact S.out.done rfl
end Go.Proofs.YtncmihikpcdgoaaGreat

namespace Go.Proofs.YtncmihikpcdgoaaGreat
open Go.RowKit
open Dk (zeros zeros_length)
/-- a row of pages in memory -/
structure PgRow (w : World) (A : Option Addr) (n : Nat) (ps : List (List UInt8)) : Prop where
  len : ps.length = n
  small : n ≤ maxLen
  size : ∀ i, i < n → (ps.getD i []).length = 64
  cells : 0 < n → ∃ b off, A = some ⟨b, off, none⟩ ∧ b < w.heap.size ∧ ∀ i, i < n → w.rangeAt b (off + i * 64) (byteVals (ps.getD i []))
set_option maxRecDepth 100000 in
theorem PgRow.below {N : Nat} {w w' : World} {A : Option Addr} {n : Nat} {ps : List (List UInt8)} (h : PgRow w A n ps) (hb : Below N w w') (hN : ∀ b off, A = some ⟨b, off, none⟩ → b < N) : PgRow w' A n ps where
  len := h.len
  small := h.small
  size := h.size
  cells := fun hn => by
    obtain ⟨b, off, rfl, hlt, hc⟩ := h.cells hn
    have hbn := hN b off rfl
    exact ⟨b, off, rfl, Nat.lt_of_lt_of_le hlt hb.size, fun i hi j v hv => (hb.cell (p := ⟨b, off + i * 64 + j, none⟩) hbn).trans (hc i hi j v hv)⟩
def zeroB (ps : List (List UInt8)) (n : Nat) : Bool := decide (∀ i, i < n → ps.getD i [] = zeros)
set_option maxRecDepth 100000 in
theorem run_eqZero (w : World) (p : List UInt8) (hp : p.length = 64) : (Op.equalIn 10000 68 (.agg (byteVals p).toArray) (.agg zeroCells)).run Tryz.prog w = .ok (decide (p = zeros)) w := by
  have := run_eqPages w p zeros hp zeros_length
  unfold pageV at this
  exact this
set_option maxHeartbeats 2000000 in
set_option maxRecDepth 100000 in
theorem zero_row (b off n c : Nat) (ps : List (List UInt8)) (w : World) (hl : ps.length = n) (hn : n ≤ 1000) (hb : b < w.heap.size)
    (hsize : ∀ i, i < n → (ps.getD i []).length = 64) (hcell : ∀ i, i < n → w.rangeAt b (off + i * 64) (byteVals (ps.getD i []))) :
    Calls Tryz.prog 151 #[.slice (some ⟨b, off, none⟩) n c] w fun e w' => e = .returned (.bool (zeroB ps n)) ∧ Below w.heap.size w w' := by
  have HC := Lib.hid hcell
  have HZ := Lib.hid hsize
  clear hcell hl hsize
  go_enter Tryz.func151, Tryz.ntmps151
  go_wp2_with fail
  go_loopw [7] (fun i wr => ∃ k : Nat, k ≤ n ∧ i = .int .i64 k ∧ Hid (∀ j, j < k → ps.getD j [] = zeros) ∧ Below w.heap.size w wr) (fun i _ => n - (intOf i).toNat)
  case atStart => exact ⟨0, Nat.zero_le _, rfl, Lib.hid (fun j hj => by omega), Below.refl _ _⟩
  case round =>
    obtain ⟨k, hk, rfl, HA, hbel⟩ := hrel
    by_cases hlt : k < n
    · have hcr : Hid (wr.rangeAt b (off + k * 64) (byteVals (ps.getD k []))) := Lib.hid fun j v hv => (hbel.cell (p := ⟨b, off + k * 64 + j, none⟩) hb).trans (HC.out k hlt j v hv)
      have hz := Lib.hid (HZ.out k hlt)
      have hlen : Hid ((byteVals (ps.getD k [])).length = 64) := Lib.hid (by rw [byteVals_length]; exact hz.out)
      have heq := fun W => run_eqZero W (ps.getD k []) hz.out
      rw [zeroCells_def] at heq
      by_cases hp : ps.getD k [] = zeros
      · have hd : decide (ps.getD k [] = zeros) = true := decide_eq_true hp
        rw [hd] at heq
        have HA2 : Hid (∀ j, j < k + 1 → ps.getD j [] = zeros) := Lib.hid (fun j hj => by
          rcases Nat.lt_or_ge j k with h | h
          · exact HA.out j h
          · obtain rfl : j = k := by omega
            exact hp)
        clear hp hd
        generalize ps.getD k [] = p at hcr hz hlen heq
        go_wp2_with (first
          | (with_reducible refine wpList_load_mid rfl 68 (.tmp 9) rfl b (off + k * 64) rfl (byteVals p) _ hcr.out Tryz.underlying68 rfl (page_info.trans (congrArg some hlen.out.symm)) ?_)
          | ((with_reducible refine wpList_store_new rfl (.tmp 4) (.tmp 10) rfl rfl ?_ ?_ hz.out ?_); (exact rfl); (exact rfl); intro W2 hP hB2 hz2)
          | (with_reducible refine wpList_load_mid rfl 68 (.tmp 4) rfl wr.heap.size 0 rfl (byteVals p) _ hP.range Tryz.underlying68 rfl (page_info.trans (congrArg some hlen.out.symm)) ?_))
        go_roundw
        case rel => exact ⟨k + 1, by omega, by go_num, HA2, hbel.trans (hB2.mono hbel.size)⟩
        case measure => simp [intOf]; omega
      · have hd : decide (ps.getD k [] = zeros) = false := decide_eq_false hp
        rw [hd] at heq
        have HF : Hid (zeroB ps n = false) := Lib.hid (by unfold zeroB; rw [decide_eq_false_iff_not]; exact fun h => hp (h k hlt))
        clear hp hd
        generalize ps.getD k [] = p at hcr hz hlen heq
        go_wp2_with (first
          | (with_reducible refine wpList_load_mid rfl 68 (.tmp 9) rfl b (off + k * 64) rfl (byteVals p) _ hcr.out Tryz.underlying68 rfl (page_info.trans (congrArg some hlen.out.symm)) ?_)
          | ((with_reducible refine wpList_store_new rfl (.tmp 4) (.tmp 10) rfl rfl ?_ ?_ hz.out ?_); (exact rfl); (exact rfl); intro W2 hP hB2 hz2)
          | (with_reducible refine wpList_load_mid rfl 68 (.tmp 4) rfl wr.heap.size 0 rfl (byteVals p) _ hP.range Tryz.underlying68 rfl (page_info.trans (congrArg some hlen.out.symm)) ?_))
        go_ret
        exact ⟨ret_bool HF.out.symm, hbel.trans (hB2.mono hbel.size)⟩
    · obtain rfl : k = n := by omega
      have HT : Hid (zeroB ps k = true) := Lib.hid (by unfold zeroB; exact decide_eq_true HA.out)
      go_wp2
      go_ret
      exact ⟨ret_bool HT.out.symm, hbel⟩
end Go.Proofs.YtncmihikpcdgoaaGreat

namespace Go.Proofs.YtncmihikpcdgoaaGreat
open Go.RowKit Go.Maps
open Dk (zeros zeros_length)
open Ii (Ino)
theorem zeroB_one (p : List UInt8) : zeroB [p] 1 = decide (p = zeros) := by
  unfold zeroB
  congr 1
  apply propext
  constructor
  · intro h; exact h 0 (by decide)
  · intro h i hi
    obtain rfl : i = 0 := by omega
    exact h
theorem wnums_at (p : List UInt8) (k : Nat) (hk : k < 32) : (numsUpto p 32)[k]? = some (numN p (k : Int)) := by
  unfold numsUpto
  simp [hk]
/-- one number is cut: ahead of the call, and behind it -/
def CnS (R : Ending → World → Prop) (B : Nat) (b : Blk) (n I : Int) (w0 : World) (K : Bool → Ending → World → Prop) (l : List (Nat × List Value)) (B0 : Nat) (was : List UInt8) (s : Sto) (m1 : Fs.M Int) (f : Int → Fs.M Bool) (k : Option Int) (W : World) : Prop :=
  (match k with
    | none => Stp R B b n I [] w0 K l s (Fs.andThen m1 f) W
    | some y => ∃ s', Stp R B b n I [] w0 K l s' (f y) W) ∧ IntRow W (some ⟨B0, 0, none⟩) 32 (numsUpto was 32)
section
variable {R : Ending → World → Prop} {B : Nat} {b : Blk} {n I : Int} {w0 : World} {K : Bool → Ending → World → Prop} {l : List (Nat × List Value)} {B0 : Nat} {was : List UInt8} {s : Sto} {m1 : Fs.M Int} {f : Int → Fs.M Bool} {k : Option Int} {W W' : World}
theorem CnS.lo (h : CnS R B b n I w0 K l B0 was s m1 f k W) : Lo [b.t] w0 l W := by
  obtain ⟨h, _⟩ := h
  cases k with
  | none => exact (show Stp R B b n I [] w0 K l s (Fs.andThen m1 f) W from h).lo
  | some y => obtain ⟨s', h⟩ := (show ∃ s', Stp R B b n I [] w0 K l s' (f y) W from h); exact h.lo
theorem CnS.below (h : CnS R B b n I w0 K l B0 was s m1 f k W) (hb : Below W.heap.size W W') : CnS R B b n I w0 K l B0 was s m1 f k W' := by
  obtain ⟨h, h2⟩ := h
  refine ⟨?_, h2.step hb⟩
  cases k with
  | none => exact (show Stp R B b n I [] w0 K l s (Fs.andThen m1 f) W from h).below hb
  | some y => obtain ⟨s', h⟩ := (show ∃ s', Stp R B b n I [] w0 K l s' (f y) W from h); exact ⟨s', h.below hb⟩
end
set_option maxRecDepth 100000 in
set_option maxHeartbeats 4000000 in
theorem scutNums_step {w : World} {B : Nat} {b : Blk} {s : Sto} {n I : Int} (sub : Int → Int → Fs.M Int) (q : Int) (hq : 1 ≤ q ∧ q ≤ 32) (Z : Int) (hZ : 0 ≤ Z ∧ Z ≤ 1000000000) (HSUB : ∀ W s' m frm, Ctx W B b s' n I → -Z - 1024 ≤ frm → frm ≤ 1000000 → Calls Tryz.prog 92 #[.pointer (some ⟨B, 0, none⟩), .int .i64 m, .int .i64 q, .int .i64 frm] W (Ends B b n I [] W s' (sub m frm) fun y e _ => e = .returned (.int .i64 y)))
    (h : Ctx w B b s n I) (m frm : Int) (hm : okP n m) (hf : -Z ≤ frm ∧ frm ≤ 1000000) : Calls Tryz.prog 130 #[.pointer (some ⟨B, 0, none⟩), .int .i64 m, .int .i64 q, .int .i64 frm] w (Ends B b n I [] w s (Fs.cutNums sub q m frm) fun left e _ => e = .returned (.bool left)) := by
  refine calls_of fun R H => ?_
  have S0 := Lib.hid (Stp.start h (by simp) H)
  have S := Lib.hid (Stp.saw S0.out)
  clear S0
  have HT : Hid (b.t < w.heap.size) := Lib.hid (h.store.lt _ b.t_mem)
  have r3 := (h.vs.read hm).2.2
  have HL := Lib.hid r3
  have HG : Hid (∀ W, Ctx W B b s n I → Calls Tryz.prog 87 #[.pointer (some ⟨B, 0, none⟩), .int .i64 m] W fun e w' => e = .returned (pageV (nv s m.toNat)) ∧ Below W.heap.size W w') := Lib.hid (fun W hc => spage_any hc m hm)
  have HM := Lib.hid hm
  have HS := Lib.hid HSUB
  clear h H r3 hm HSUB
  generalize nv s m.toNat = was at HL HG S
  go_enter Tryz.func130, Tryz.ntmps130
  go_wp2_with (first
    | (go_at_call 87; (with_reducible refine (HG.out _ S.out.ctx).mono ?_); rintro e w1 ⟨rfl, hb⟩; replace S := Lib.hid (S.out.below hb); clear hb)
    | ((with_reducible refine wpList_store_new rfl (.tmp 9) (.tmp 15) rfl rfl ?_ ?_ HL.out ?_); (exact rfl); (exact rfl); intro W2 hP hB2 hz2; replace S := Lib.hid (S.out.made hP.rowAt hB2 hz2); clear hP hB2 hz2)
    | (with_reducible refine wpList_load_page (S.out.lo.page 0 rfl HL.out) rfl (.tmp 9) rfl rfl ?_)
    | ((with_reducible refine wpList_store_new rfl (.tmp 10) (.tmp 16) rfl rfl ?_ ?_ HL.out ?_); (exact rfl); (exact rfl); intro W3 hP hB2 hz2; replace S := Lib.hid (S.out.made hP.rowAt hB2 hz2); clear hP hB2 hz2)
    | (go_at_call 150; (with_reducible refine (wnumbers_any was _ HL.out).mono ?_); rintro e w4 ⟨B0, rfl, hI, hb, hB0⟩; have HI := Lib.hid hI; have HB0 : Hid (W2.heap.size < B0 ∧ w.heap.size ≤ B0) := Lib.hid ⟨Nat.lt_of_lt_of_le (S.out.lo.lt 1 _ rfl) hB0, Nat.le_trans S.out.lo.only.size hB0⟩; replace S := Lib.hid (S.out.below hb); clear hb hI hB0))
  generalize w1.heap.size = b9 at S ⊢
  generalize W2.heap.size = b10 at S HB0 ⊢
  have HNE : Hid (B0 ≠ b10) := Lib.hid (by have := HB0.out.1; omega)
  go_loopw [20] (fun i wr => ∃ (k : Nat) (p : List UInt8) (s3 : Sto), k ≤ 32 ∧ i = .int .i64 k ∧ Hid (p.length = 64) ∧ Hid (Stp R B b n I [] w (fun (left : Bool) e _ => e = .returned (.bool left)) [(b9, byteVals was), (b10, byteVals p)] s3 (Fs.andThen (Fs.cutLoop sub q frm was k (32 - k) p) fun p => if p = zeros then Fs.ret false else if p = was then Fs.ret true else Fs.andThen (Fs.wr m.toNat p) fun _ => Fs.ret true) wr) ∧ Hid (IntRow wr (some ⟨B0, 0, none⟩) 32 (numsUpto was 32))) (fun i _ => 32 - (intOf i).toNat)
  case atStart => exact ⟨0, was, s, by omega, rfl, HL, S, HI⟩
  case round =>
    clear S HI HG
    obtain ⟨k0, p, s3, hk, rfl, HP, S, HI⟩ := hrel
    by_cases hlt : k0 < 32
    · obtain ⟨bb, off, he, hbb, hcc⟩ := HI.out.cells (by omega)
      injection he with he
      injection he with he1 he2
      subst he1
      subst he2
      have ck : wr.cell? ⟨B0, 0 + k0, none⟩ = some (.int .i64 (numN was (k0 : Int))) := hcc k0 _ (wnums_at was k0 hlt)
      rw [Nat.zero_add] at ck
      clear hcc hbb
      rw [show 32 - k0 = (32 - (k0 + 1)) + 1 by omega, Fs.cutLoop, Fs.andThen_assoc] at S
      obtain ⟨x, hx⟩ : ∃ x, numN was (k0 : Int) = x := ⟨_, rfl⟩
      rw [hx] at S ck
      clear hx
      have hkq : 0 ≤ (k0 : Int) * q ∧ (k0 : Int) * q ≤ 1024 := ⟨Int.mul_nonneg (by omega) (by omega), by
        have h1 : (k0 : Int) * q ≤ 32 * 32 := Int.mul_le_mul (by omega) (by omega) (by omega) (by omega)
        omega⟩
      have HBD : Hid (-Z - 1024 ≤ frm - (k0 : Int) * q ∧ frm - (k0 : Int) * q ≤ 1000000) := Lib.hid (by omega)
      have gm : IntKind.i64.wrap ((k0 : Int) * q) = (k0 : Int) * q := IntWalk.i64_in _ (by omega)
      have gs : IntKind.i64.wrap (frm - (k0 : Int) * q) = frm - (k0 : Int) * q := IntWalk.i64_in _ (by omega)
      go_wp2_with fail
      refine wp_region_linp (SO (fun (k : Option Int) W => CnS R B b n I w (fun (left : Bool) e _ => e = .returned (.bool left)) [(b9, byteVals was), (b10, byteVals p)] B0 was s3 (sub x (frm - (k0 : Int) * q)) (fun y => Fs.andThen (Fs.cutLoop sub q frm was (k0 + 1) (32 - (k0 + 1)) (setNum p (k0 : Int) y)) fun p => if p = zeros then Fs.ret false else if p = was then Fs.ret true else Fs.andThen (Fs.wr m.toNat p) fun _ => Fs.ret true) k W)) (fun ch W => ch = [failE B] ∧ R (.panicked [failE B]) W) (fun i => i == 10 || i == 11 || i == 12) (fun i => [pageV p, .int .i64 (k0 : Int), .pointer (some ⟨B, 0, none⟩), .int .i64 x, .int .i64 q, .int .i64 frm, .int .i64 (k0 : Int), .int .i64 q, .int .i64 ((k0 : Int) * q), .int .i64 (frm - (k0 : Int) * q)].getD i undef) (some none) (by kernel_rfl) (by kernel_rfl) (fun ch a' W hd hh => ?_) ⟨S.out.drew, HI.out.step ((Below.refl _ _).drew)⟩ ?_
      · exact ⟨hd, by obtain ⟨rfl, hR⟩ := hh; exact hR⟩
      refine linp_step (i := 0) (d := some 25) (v := (pageV p)) rfl rfl (by kernel_rfl) (by kernel_rfl) rfl rfl (ord_page (by kernel_rfl) (.tmp 10) rfl rfl (SO.all (fun _ W hS => (CnS.lo hS).page 1 rfl HP.out))) ?_
      try simp only [Act.put, List.setIfInBounds_toArray, List.set_cons_zero, List.set_cons_succ]
      refine linp_step (i := 1) (d := some 26) (v := (.int .i64 (k0 : Int))) rfl rfl (by kernel_rfl) (by kernel_rfl) rfl rfl (ord_value (by kernel_rfl) ?_) ?_
      · ((intro _ _ _; go_simp) <;> kernel_rfl)
      try simp only [Act.put, List.setIfInBounds_toArray, List.set_cons_zero, List.set_cons_succ]
      refine linp_step (i := 2) (d := some 27) (v := (.pointer (some ⟨B, 0, none⟩))) rfl rfl (by kernel_rfl) (by kernel_rfl) rfl rfl (ord_value (by kernel_rfl) ?_) ?_
      · ((intro _ _ _; go_simp) <;> kernel_rfl)
      try simp only [Act.put, List.setIfInBounds_toArray, List.set_cons_zero, List.set_cons_succ]
      refine linp_step (i := 3) (d := some 28) (v := (.int .i64 x)) rfl rfl (by kernel_rfl) (by kernel_rfl) rfl rfl (ord_value (by kernel_rfl) ?_) ?_
      · ((intro _ _ _; go_simp) <;> kernel_rfl)
      try simp only [Act.put, List.setIfInBounds_toArray, List.set_cons_zero, List.set_cons_succ]
      refine linp_step (i := 4) (d := some 29) (v := (.int .i64 q)) rfl rfl (by kernel_rfl) (by kernel_rfl) rfl rfl (ord_value (by kernel_rfl) ?_) ?_
      · ((intro _ _ _; go_simp) <;> kernel_rfl)
      try simp only [Act.put, List.setIfInBounds_toArray, List.set_cons_zero, List.set_cons_succ]
      refine linp_step (i := 5) (d := some 30) (v := (.int .i64 frm)) rfl rfl (by kernel_rfl) (by kernel_rfl) rfl rfl (ord_value (by kernel_rfl) ?_) ?_
      · ((intro _ _ _; go_simp) <;> kernel_rfl)
      try simp only [Act.put, List.setIfInBounds_toArray, List.set_cons_zero, List.set_cons_succ]
      refine linp_step (i := 6) (d := some 31) (v := (.int .i64 (k0 : Int))) rfl rfl (by kernel_rfl) (by kernel_rfl) rfl rfl (ord_value (by kernel_rfl) ?_) ?_
      · ((intro _ _ _; go_simp) <;> kernel_rfl)
      try simp only [Act.put, List.setIfInBounds_toArray, List.set_cons_zero, List.set_cons_succ]
      refine linp_step (i := 7) (d := some 32) (v := (.int .i64 q)) rfl rfl (by kernel_rfl) (by kernel_rfl) rfl rfl (ord_value (by kernel_rfl) ?_) ?_
      · ((intro _ _ _; go_simp) <;> kernel_rfl)
      try simp only [Act.put, List.setIfInBounds_toArray, List.set_cons_zero, List.set_cons_succ]
      refine linp_step (i := 8) (d := some 33) (v := (.int .i64 ((k0 : Int) * q))) rfl rfl (by kernel_rfl) (by kernel_rfl) rfl rfl (ord_value (by kernel_rfl) ?_) ?_
      · ((intro _ _ _; go_simp) <;> kernel_rfl)
      try simp only [Act.put, List.setIfInBounds_toArray, List.set_cons_zero, List.set_cons_succ]
      refine linp_step (i := 9) (d := some 34) (v := (.int .i64 (frm - (k0 : Int) * q))) rfl rfl (by kernel_rfl) (by kernel_rfl) rfl rfl (ord_value (by kernel_rfl) ?_) ?_
      · ((intro _ _ _; go_simp) <;> kernel_rfl)
      try simp only [Act.put, List.setIfInBounds_toArray, List.set_cons_zero, List.set_cons_succ]
      have HSN := Lib.hid (fun y W => setNumber_any p (k0 : Int) y W HP.out)
      refine linp_turn (i := 10) (d := some 35) (fun u k => ∃ y, u = .int .i64 y ∧ k = some (some y)) rfl rfl (by kernel_rfl) (by kernel_rfl) rfl (by kernel_rfl) ⟨.int .i64 0, some (some 0), 0, rfl, rfl⟩ (by kernel_rfl) (gives_all (f := 92) (args := #[.pointer (some ⟨B, 0, none⟩), .int .i64 x, .int .i64 q, .int .i64 (frm - (k0 : Int) * q)]) ?_ (fun W hS => (HS.out W s3 x (frm - (k0 : Int) * q) (show Stp R B b n I [] w _ _ s3 (Fs.andThen _ _) W from hS.1).ctx HBD.out.1 HBD.out.2).mono fun e w' hE => by
        rcases Stp.bindO (show Stp R B b n I [] w _ _ s3 (Fs.andThen _ _) W from hS.1) hE with ⟨rfl, hR⟩ | ⟨y, s', L', _, rfl, S2, hO⟩
        · exact Or.inr ⟨_, rfl, rfl, hR⟩
        · exact Or.inl ⟨_, rfl, some (some y), ⟨y, rfl, rfl⟩, ⟨s', S2⟩, hS.2.only hO (fun b' o he => by injection he with he; injection he with he; subst he; have := HB0.out.2; have := HT.out; simp; omega)⟩)) ?_
      · (intro _; go_simp)
      rintro _ _ ⟨y, rfl, rfl⟩
      try simp only [Act.put, List.setIfInBounds_toArray, List.set_cons_zero, List.set_cons_succ]
      refine linp_turn (i := 11) (d := some 36) (fun u k => u = pageV (setNum p (k0 : Int) y) ∧ k = some (some y)) rfl rfl (by kernel_rfl) (by kernel_rfl) rfl (by kernel_rfl) ⟨_, _, rfl, rfl⟩ (by kernel_rfl) (gives_all (f := 96) (args := #[pageV p, .int .i64 (k0 : Int), .int .i64 y]) ?_ (fun W hS => (HSN.out y W).mono fun e w' hh => Or.inl ⟨_, hh.1, some (some y), ⟨rfl, rfl⟩, CnS.below (SO.some hS) hh.2⟩)) ?_
      · (intro _; go_simp)
      rintro _ _ ⟨rfl, rfl⟩
      try simp only [Act.put, List.setIfInBounds_toArray, List.set_cons_zero, List.set_cons_succ]
      refine linp_last (i := 12) (d := none) rfl rfl (by kernel_rfl) rfl (by kernel_rfl) (by kernel_rfl) fun W hS => givesP_of (gives_store_page ((CnS.lo (SO.some hS)).page 1 rfl HP.out) (setNum_length p (k0 : Int) y HP.out) (.tmp 10) (.tmp 36) rfl rfl rfl ?_)
      obtain ⟨⟨s5, S5⟩, I5⟩ := (show (∃ s', Stp R B b n I [] w _ _ s' _ W) ∧ _ from hS)
      have S6 := Lib.hid (S5.put 1 _ rfl (byteVals (setNum p (k0 : Int) y)) (by rw [byteVals_length, byteVals_length, HP.out, setNum_length p (k0 : Int) y HP.out]))
      have I6 := Lib.hid (I5.only ((Only.refl [b10] W).setCells b10 (by simp) (byteVals (setNum p (k0 : Int) y)) 0 W) (fun b' o he => by injection he with he; injection he with he; subst he; simpa using HNE.out))
      have HP6 := Lib.hid (setNum_length p (k0 : Int) y HP.out)
      clear S5 I5 hS S HI HSN ck
      try simp only [Act.put]
      go_wp2_with fail
      go_roundw
      case rel => exact ⟨k0 + 1, _, s5, by omega, by go_num, HP6, S6, I6⟩
      case measure => simp [intOf]; omega
    · obtain rfl : k0 = 32 := by omega
      rw [show 32 - 32 = 0 by rfl, Fs.cutLoop, Fs.ret_andThen] at S
      have hbl : (byteVals p).length = 64 := by rw [byteVals_length]; exact HP.out
      by_cases z : p = zeros
      · rw [if_pos z] at S
        have HZ : Hid (∀ W b', b' < W.heap.size → PageAt W b' p → Calls Tryz.prog 151 #[.slice (some ⟨b', 0, none⟩) 1 1] W fun e w' => e = .returned (.bool true) ∧ Below W.heap.size W w') := Lib.hid (fun W b' hb' hp => by
          have := zero_row b' 0 1 1 [p] W rfl (by omega) hb' (fun i hi => by obtain rfl : i = 0 := (by omega); exact HP.out) (fun i hi => by obtain rfl : i = 0 := (by omega); exact hp.range)
          rw [zeroB_one, decide_eq_true z] at this
          exact this)
        clear z
        go_wp2_with (with_reducible refine wpList_load_mid rfl 68 (.tmp 10) rfl b10 0 rfl (byteVals p) _ (S.out.lo.page 1 rfl HP.out).range Tryz.underlying68 rfl (by rw [page_info, byteVals_length, HP.out]) ?_)
        rw [fold_page rfl HP.out]
        generalize hw : World.alloc _ _ = w2
        replace S : Hid (Stp R B b n I [] w (fun (left : Bool) e _ => e = .returned (.bool left)) [(b9, byteVals was), (b10, byteVals p), (wr.heap.size, byteVals p)] s3 (Fs.ret false) w2) := Lib.hid (by rw [← hw]; exact S.out.alloc _ rfl (byteVals p) _)
        clear hw
        replace HZ := Lib.hid (HZ.out w2 wr.heap.size (S.out.lo.lt 2 _ rfl) (S.out.lo.page 2 rfl HP.out))
        go_wp2_with (go_at_call 151; (with_reducible refine HZ.out.mono ?_); rintro e w3 ⟨rfl, hb⟩; replace S := Lib.hid (S.out.below hb); clear hb HZ)
        exact S.out.done rfl
      · rw [if_neg z] at S
        have HZ : Hid (∀ W b', b' < W.heap.size → PageAt W b' p → Calls Tryz.prog 151 #[.slice (some ⟨b', 0, none⟩) 1 1] W fun e w' => e = .returned (.bool false) ∧ Below W.heap.size W w') := Lib.hid (fun W b' hb' hp => by
          have := zero_row b' 0 1 1 [p] W rfl (by omega) hb' (fun i hi => by obtain rfl : i = 0 := (by omega); exact HP.out) (fun i hi => by obtain rfl : i = 0 := (by omega); exact hp.range)
          rw [zeroB_one, decide_eq_false z] at this
          exact this)
        clear z
        by_cases e0 : p = was
        · rw [if_pos e0] at S
          have E1 : ∀ (w : World), (binOp .neq 68 (pageV p) (pageV was)).run Tryz.prog w = .ok (.bool false) w := fun w => by rw [e0]; exact run_neq_same w was HL.out
          have E0 : ∀ (w : World) (x y : Operand), (eqGuard .neq 68 x y (pageV p) (pageV was)).run Tryz.prog w = .ok () w := fun w x y => run_neGuard_page w x y p was
          clear e0
          go_wp2_with (with_reducible refine wpList_load_mid rfl 68 (.tmp 10) rfl b10 0 rfl (byteVals p) _ (S.out.lo.page 1 rfl HP.out).range Tryz.underlying68 rfl (by rw [page_info, byteVals_length, HP.out]) ?_)
          rw [fold_page rfl HP.out]
          generalize hw : World.alloc _ _ = w2
          replace S : Hid (Stp R B b n I [] w (fun (left : Bool) e _ => e = .returned (.bool left)) [(b9, byteVals was), (b10, byteVals p), (wr.heap.size, byteVals p)] s3 (Fs.ret true) w2) := Lib.hid (by rw [← hw]; exact S.out.alloc _ rfl (byteVals p) _)
          clear hw
          replace HZ := Lib.hid (HZ.out w2 wr.heap.size (S.out.lo.lt 2 _ rfl) (S.out.lo.page 2 rfl HP.out))
          go_wp2_with (first
            | (go_at_call 151; (with_reducible refine HZ.out.mono ?_); rintro e w3 ⟨rfl, hb⟩; replace S := Lib.hid (S.out.below hb); clear hb HZ)
            | (with_reducible refine wpList_load_page (S.out.lo.page 1 rfl HP.out) rfl (.tmp 10) rfl rfl ?_)
            | (with_reducible refine wpList_load_page (S.out.lo.page 0 rfl HL.out) rfl (.tmp 9) rfl rfl ?_))
          exact S.out.done rfl
        · rw [if_neg e0] at S
          have E1 : ∀ (w : World), (binOp .neq 68 (pageV p) (pageV was)).run Tryz.prog w = .ok (.bool true) w := fun w => run_neq_not w p was HP.out HL.out e0
          have E0 : ∀ (w : World) (x y : Operand), (eqGuard .neq 68 x y (pageV p) (pageV was)).run Tryz.prog w = .ok () w := fun w x y => run_neGuard_page w x y p was
          clear e0
          go_wp2_with (with_reducible refine wpList_load_mid rfl 68 (.tmp 10) rfl b10 0 rfl (byteVals p) _ (S.out.lo.page 1 rfl HP.out).range Tryz.underlying68 rfl (by rw [page_info, byteVals_length, HP.out]) ?_)
          rw [fold_page rfl HP.out]
          generalize hw : World.alloc _ _ = w2
          replace S : Hid (Stp R B b n I [] w (fun (left : Bool) e _ => e = .returned (.bool left)) [(b9, byteVals was), (b10, byteVals p), (wr.heap.size, byteVals p)] s3 (Fs.andThen (Fs.wr m.toNat p) fun _ => Fs.ret true) w2) := Lib.hid (by rw [← hw]; exact S.out.alloc _ rfl (byteVals p) _)
          clear hw
          replace HZ := Lib.hid (HZ.out w2 wr.heap.size (S.out.lo.lt 2 _ rfl) (S.out.lo.page 2 rfl HP.out))
          go_wp2_with (first
            | (go_at_call 151; (with_reducible refine HZ.out.mono ?_); rintro e w3 ⟨rfl, hb⟩; replace S := Lib.hid (S.out.below hb); clear hb HZ)
            | (with_reducible refine wpList_load_page (S.out.lo.page 1 rfl HP.out) rfl (.tmp 10) rfl rfl ?_)
            | (with_reducible refine wpList_load_page (S.out.lo.page 0 rfl HL.out) rfl (.tmp 9) rfl rfl ?_)
            | (go_at_call 53; (with_reducible refine (sput_step S.out.ctx m p HM.out HP.out).mono ?_); intro e w8 hE; rcases S.out.bind hE with ⟨rfl, hR⟩ | ⟨_, s6, L6, _, rfl, S2⟩; (exact ⟨rfl, hR⟩); clear S hE; have S := Lib.hid S2; clear S2))
          exact S.out.done rfl
end Go.Proofs.YtncmihikpcdgoaaGreat
