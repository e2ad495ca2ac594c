/-
  The contract of the reference's Write.
-/
import Derived.Test.YtaiikpfgnamgiaaDrefr
namespace Go.Proofs.Ytaiikpfgnamgiaa
open Go.RowKit
open Dk (zeros zeros_length)

theorem anyH_store_row2 {ops : Array Oper} {Q : Exit → Act → World → Prop} {md : Region.Mode} {S : World → Prop} {i : Nat} {oi : Oper} {fuel : Nat} {listed : Array Bool} {a : Act} {w : World} {b : Nat} {ps : List (List UInt8)} (h : RowsAt w b ps) (n : Nat) (hn : n < ps.length) {p : List UInt8} (hp : p.length = 64)
    (hr : Region.ready md ops listed = [i]) (hi : ops[i]? = some oi) (hw : Region.wanted oi (yielded ops a.tmps) = true) (x y : Operand) (ho : oi.op = .store 31 x y) (hx : a.eval x = .pointer (some ⟨b, n * 64, none⟩)) (hy : a.eval y = pageV p) (d : Option Tmp) (hd : oi.dst = d)
    (hS : S (w.setCells b (n * 64) (byteVals p)))
    (hK : S (w.setCells b (n * 64) (byteVals p)) → wpAnyH Try.prog md ops Q S fuel (listed.setIfInBounds i true) (a.put d undef) (w.setCells b (n * 64) (byteVals p))) : wpAnyH Try.prog md ops Q S (fuel + 1) listed a w :=
  anyH_store_row h n hn hp hr hi hw x y ho hx hy d hd hS (hK hS)
theorem refKeep {W W' : World} {r B : Nat} {v u : Value} {p : List UInt8} (h : W.cell? ⟨r, 1, none⟩ = some v ∧ W.cell? ⟨r, 2, none⟩ = some u ∧ PageAt W B p) (h1 : W'.heap[r]? = W.heap[r]?) (h2 : W'.heap[B]? = W.heap[B]?) :
    W'.cell? ⟨r, 1, none⟩ = some v ∧ W'.cell? ⟨r, 2, none⟩ = some u ∧ PageAt W' B p :=
  ⟨(World.cell?_of_block (w := W) (a := ⟨r, 1, none⟩) h1).trans h.1, (World.cell?_of_block (w := W) (a := ⟨r, 2, none⟩) h1).trans h.2.1, h.2.2.block h2⟩
set_option maxHeartbeats 1000000 in
theorem rwrite_any {w : World} {r a b c : Nat} {s : Dk.St} (h : RefAt w r a b c s) (i : Int) (p : List UInt8) (hp : p.length = 64) : Calls Try.prog 11 #[.pointer (some ⟨r, 0, none⟩), .int .i64 i, pageV p] w fun e w' =>
    e = .returned (.int .i64 (Dk.writeE s i)) ∧ RefAt w' r a b c (Dk.write s i p) ∧ Only [r, a, b, c] w w' := by
  have HP := Lib.hid hp
  have HQ := Lib.hid (pageAt_new w p 31 hp)
  have HD := Lib.hid (h.alloc (.cells (byteVals p).toArray 31))
  have HO : Hid (Only [r, a, b, c] w (w.alloc (.cells (byteVals p).toArray 31))) := Lib.hid ((Only.refl _ _).alloc _)
  have HS := Lib.hid (rstep_any HD.out)
  have HNE : Hid (w.heap.size ≠ r) := Lib.hid (by have := h.rlt; omega)
  have HLT : Hid (w.heap.size < (w.alloc (.cells (byteVals p).toArray 31)).heap.size) := Lib.hid (by simp)
  have HOK := Lib.hid h.ok
  have HB0 := Lib.hid h.blt
  have HC0 := Lib.hid h.clt
  have c4 := HD.out.c4
  have c0 := HD.out.c0
  unfold pageV
  clear hp
  cases hd : s.down with
  | true =>
    have HE : Hid (Dk.reachE s i = 5) := Lib.hid (by unfold Dk.reachE; rw [if_pos hd])
    have HW : Hid (Dk.writeE s i = 5 ∧ Dk.write s i p = s) := Lib.hid ⟨by unfold Dk.writeE; rw [HE.out, if_neg (by omega)], by unfold Dk.write; rw [HE.out, if_neg (by omega)]⟩
    rw [HW.out.1, HW.out.2]
    rw [hd] at c4
    clear h hd HE HW
    go_enter Try.func11, Try.ntmps11
    go_wp2
    go_ret
    exact ⟨rfl, HD.out, HO.out⟩
  | false =>
    rw [hd] at c4
    have hnd : ¬ s.down = true := by rw [hd]; simp
    by_cases hh : Dk.hasB s.last.length i = true
    · obtain ⟨q0, q1⟩ := Dk.has_yes hh
      obtain ⟨k, rfl⟩ := Int.eq_ofNat_of_zero_le q0
      have hk : k < s.last.length := by omega
      have HK := Lib.hid hk
      have hre : Dk.reachE s (k : Int) = 0 := Dk.reach_mk hd hh
      have t1 : ¬ (k : Int) < 0 := by omega
      have t2 : ¬ (s.last.length : Int) ≤ (k : Int) := by omega
      have hWE : Dk.writeE s (k : Int) = Dk.spendE s := by unfold Dk.writeE; rw [if_pos hre]
      by_cases e : Dk.spendE s = 0
      · have hW : Dk.write s (k : Int) p = Dk.put (Dk.spend s) k p := by unfold Dk.write; rw [if_pos hre, if_pos e, Int.toNat_natCast]
        rw [hWE, hW, e]
        have hde : decide (Dk.spendE s = 0) = true := decide_eq_true e
        rw [hde] at HS
        have hlast := Dk.spend_last s
        clear h hd hnd hh q0 hre hWE hW e hde
        generalize Dk.spend s = s1 at HS hlast ⊢
        have HLAST := Lib.hid hlast
        clear hlast
        go_enter Try.func11, Try.ntmps11
        go_wp2_with fail
        generalize w.alloc (.cells (byteVals p).toArray 31) = w1 at HQ HD HO HS HLT c4 c0 ⊢
        refine HS.out.mono ?_
        rintro e w2 ⟨rfl, hd2, ho2⟩
        have HQ2 := Lib.hid (HQ.out.block (ho2.block _ HLT.out (by simpa using HNE.out)))
        have HD2 := Lib.hid hd2
        have HO2 := Lib.hid (HO.out.trans (ho2.mono (by simp)))
        have e1 := hd2.c1
        have e2 := hd2.c2
        rw [HLAST.out] at e1 e2
        obtain ⟨new, hnew⟩ := hd2.new
        have HNEW := Lib.hid hnew
        have g2 := HD2.out.on.at k (by rw [HD2.out.n, HLAST.out]; exact HK.out)
        have g3 := HD2.out.on.frozen k (by rw [HD2.out.n, HLAST.out]; exact HK.out)
        clear hd2 ho2 HQ HD HO HS HLT c4 c0 hnew
        generalize (onOf s1).getD k false = ov at g2
        go_wp2_with fail
        have HPUT := Lib.hid (HD2.out.drew.put k (by rw [HLAST.out]; exact HK.out) HP.out)
        have hk0 : (0 : Int) ≤ (k : Int) := by omega
        have hbc := HD2.out.bc
        have HNR := Lib.hid (HNEW.out.rows.block (w' := w2.drew) rfl)
        have HBB : Hid (w.heap.size ≠ b) := Lib.hid (by have := HB0.out; omega)
        have HBC : Hid (w.heap.size ≠ c) := Lib.hid (by have := HC0.out; omega)
        have g2' : (w2.drew.setCells b (k * 64) (byteVals p)).cell? ⟨c, k, none⟩ = some (.bool ov) := (World.cell?_of_block (w := w2) (a := ⟨c, k, none⟩) (heap_setCells_other b _ _ w2.drew c (Ne.symm hbc))).trans g2
        have g3' : (w2.drew.setCells b (k * 64) (byteVals p)).frozen? ⟨c, k, none⟩ = false := (World.frozen?_of_block (w := w2) (a := ⟨c, k, none⟩) (heap_setCells_other b _ _ w2.drew c (Ne.symm hbc))).trans g3
        refine wp_region_noPanic ?_
        refine wp_region_held_drew (S := fun W => W.cell? ⟨r, 1, none⟩ = some (.slice (some ⟨b, 0, none⟩) s.last.length s.last.length) ∧ W.cell? ⟨r, 2, none⟩ = some (.slice (some ⟨c, 0, none⟩) s.last.length s.last.length) ∧ PageAt W w.heap.size p) (by kernel_rfl) ⟨e1, e2, HQ2.out.drew⟩ (fun hHeld => ?_)
        refine take_at (i := 0) (d := some 25) (v := .pointer (some ⟨r, 0, none⟩)) rfl rfl (by kernel_rfl) (by kernel_rfl) (by kernel_rfl) (fun _ _ _ h => h) (Or.inl ⟨by kernel_rfl, ?_⟩) hHeld ?_
        · intro w hSw; obtain ⟨s1, s2, s3⟩ := hSw; go_simp
        (try simp only [Act.put, List.setIfInBounds_toArray, List.set_cons_zero, List.set_cons_succ])
        refine take_at (i := 1) (d := some 26) (v := .pointer (some ⟨r, 0, none⟩)) rfl rfl (by kernel_rfl) (by kernel_rfl) (by kernel_rfl) (fun _ _ _ h => h) (Or.inl ⟨by kernel_rfl, ?_⟩) hHeld ?_
        · intro w hSw; obtain ⟨s1, s2, s3⟩ := hSw; go_simp
        (try simp only [Act.put, List.setIfInBounds_toArray, List.set_cons_zero, List.set_cons_succ])
        refine take_at (i := 2) (d := some 27) (v := .pointer (some ⟨r, 1, none⟩)) rfl rfl (by kernel_rfl) (by kernel_rfl) (by kernel_rfl) (fun _ _ _ h => h) (Or.inl ⟨by kernel_rfl, ?_⟩) hHeld ?_
        · intro w hSw; obtain ⟨s1, s2, s3⟩ := hSw; go_simp
        (try simp only [Act.put, List.setIfInBounds_toArray, List.set_cons_zero, List.set_cons_succ])
        refine take_at (i := 3) (d := some 28) (v := .slice (some ⟨b, 0, none⟩) s.last.length s.last.length) rfl rfl (by kernel_rfl) (by kernel_rfl) (by kernel_rfl) (fun _ _ _ h => h) (Or.inl ⟨by kernel_rfl, ?_⟩) hHeld ?_
        · intro w hSw; obtain ⟨s1, s2, s3⟩ := hSw; go_simp
        (try simp only [Act.put, List.setIfInBounds_toArray, List.set_cons_zero, List.set_cons_succ])
        refine take_at (i := 4) (d := some 29) (v := .int .i64 (k : Int)) rfl rfl (by kernel_rfl) (by kernel_rfl) (by kernel_rfl) (fun _ _ _ h => h) (Or.inl ⟨by kernel_rfl, ?_⟩) hHeld ?_
        · intro w hSw; obtain ⟨s1, s2, s3⟩ := hSw; go_simp
        (try simp only [Act.put, List.setIfInBounds_toArray, List.set_cons_zero, List.set_cons_succ])
        refine take_at (i := 5) (d := some 30) (v := .pointer (some ⟨r, 0, none⟩)) rfl rfl (by kernel_rfl) (by kernel_rfl) (by kernel_rfl) (fun _ _ _ h => h) (Or.inl ⟨by kernel_rfl, ?_⟩) hHeld ?_
        · intro w hSw; obtain ⟨s1, s2, s3⟩ := hSw; go_simp
        (try simp only [Act.put, List.setIfInBounds_toArray, List.set_cons_zero, List.set_cons_succ])
        refine take_at (i := 6) (d := some 31) (v := .pointer (some ⟨r, 0, none⟩)) rfl rfl (by kernel_rfl) (by kernel_rfl) (by kernel_rfl) (fun _ _ _ h => h) (Or.inl ⟨by kernel_rfl, ?_⟩) hHeld ?_
        · intro w hSw; obtain ⟨s1, s2, s3⟩ := hSw; go_simp
        (try simp only [Act.put, List.setIfInBounds_toArray, List.set_cons_zero, List.set_cons_succ])
        refine take_at (i := 7) (d := some 32) (v := .pointer (some ⟨r, 2, none⟩)) rfl rfl (by kernel_rfl) (by kernel_rfl) (by kernel_rfl) (fun _ _ _ h => h) (Or.inl ⟨by kernel_rfl, ?_⟩) hHeld ?_
        · intro w hSw; obtain ⟨s1, s2, s3⟩ := hSw; go_simp
        (try simp only [Act.put, List.setIfInBounds_toArray, List.set_cons_zero, List.set_cons_succ])
        refine take_at (i := 8) (d := some 33) (v := .slice (some ⟨c, 0, none⟩) s.last.length s.last.length) rfl rfl (by kernel_rfl) (by kernel_rfl) (by kernel_rfl) (fun _ _ _ h => h) (Or.inl ⟨by kernel_rfl, ?_⟩) hHeld ?_
        · intro w hSw; obtain ⟨s1, s2, s3⟩ := hSw; go_simp
        (try simp only [Act.put, List.setIfInBounds_toArray, List.set_cons_zero, List.set_cons_succ])
        refine take_at (i := 9) (d := some 34) (v := .int .i64 (k : Int)) rfl rfl (by kernel_rfl) (by kernel_rfl) (by kernel_rfl) (fun _ _ _ h => h) (Or.inl ⟨by kernel_rfl, ?_⟩) hHeld ?_
        · intro w hSw; obtain ⟨s1, s2, s3⟩ := hSw; go_simp
        (try simp only [Act.put, List.setIfInBounds_toArray, List.set_cons_zero, List.set_cons_succ])
        refine take_at (i := 10) (d := some 35) (v := pageV p) rfl rfl (by kernel_rfl) (by kernel_rfl) (by kernel_rfl) (fun _ _ _ h => h) (yields_page (by kernel_rfl) (.tmp 5) rfl rfl HP.out (fun _ hSw => hSw.2.2.range)) hHeld ?_
        (try simp only [Act.put, List.setIfInBounds_toArray, List.set_cons_zero, List.set_cons_succ])
        refine take_at (i := 11) (d := some 36) (v := .pointer (some ⟨b, k * 64, none⟩)) rfl rfl (by kernel_rfl) (by kernel_rfl) (by kernel_rfl) (fun _ _ _ h => h) (Or.inl ⟨by kernel_rfl, ?_⟩) hHeld ?_
        · intro w hSw; obtain ⟨s1, s2, s3⟩ := hSw; go_simp
        (try simp only [Act.put, List.setIfInBounds_toArray, List.set_cons_zero, List.set_cons_succ])
        refine anyH_store_row2 (i := 12) HNR.out k (by rw [HNEW.out.len, HLAST.out]; exact HK.out) HP.out (by kernel_rfl) rfl (by kernel_rfl) (.tmp 36) (.tmp 35) rfl rfl rfl none rfl (refKeep hHeld (heap_setCells_other b _ _ _ r HD2.out.rb) (heap_setCells_other b _ _ _ w.heap.size HBB.out)) (fun hHeld => ?_)
        (try simp only [Act.put])
        refine take_at (i := 13) (d := some 37) (v := .pointer (some ⟨c, k, none⟩)) rfl rfl (by kernel_rfl) (by kernel_rfl) (by kernel_rfl) (fun _ _ _ h => h) (Or.inl ⟨by kernel_rfl, ?_⟩) hHeld ?_
        · intro w hSw; obtain ⟨s1, s2, s3⟩ := hSw; go_simp
        (try simp only [Act.put, List.setIfInBounds_toArray, List.set_cons_zero, List.set_cons_succ])
        refine wpAnyH_ready (rs := [14]) (by kernel_rfl) (by simp) ?_
        refine AllReadyH.cons rfl (fun K hK => ?_) AllReadyH.nil
        go_simp
        refine hK.out _ _ (refKeep hHeld (Below.heap_setCell _ _ _ _ HD2.out.rc) (Below.heap_setCell _ _ _ _ HBC.out)) (fun hHeld => ?_)
        clear hK K
        (try simp only [Act.put])
        refine wpAnyH_done (by kernel_rfl) ?_ _
        refine NoPanic.normal ?_
        go_wp2
        go_ret
        exact ⟨rfl, HPUT.out, (Only.setCells b (by simp) _ _ _ HO2.out.drew).setCell (by simp) _⟩
      · have hW : Dk.write s (k : Int) p = Dk.spend s := by unfold Dk.write; rw [if_pos hre, if_neg e]
        have h5 : Dk.spendE s = 5 := by rcases Dk.spend_vals s with q | q <;> omega
        rw [hWE, hW, h5]
        have hde : decide (Dk.spendE s = 0) = false := decide_eq_false e
        rw [hde] at HS
        clear h hd hnd hh q0 hre hWE hW e hde h5
        generalize Dk.spend s = s1 at HS ⊢
        go_enter Try.func11, Try.ntmps11
        go_wp2_with fail
        refine HS.out.mono ?_
        rintro e w2 ⟨rfl, hd2, ho2⟩
        go_wp2
        go_ret
        exact ⟨rfl, hd2, HO.out.trans (ho2.mono (by simp))⟩
    · have hh' : Dk.hasB s.last.length i = false := by simpa using hh
      have HE : Hid (Dk.reachE s i = 22) := Lib.hid (by unfold Dk.reachE; rw [if_neg hnd, if_neg hh])
      have HW : Hid (Dk.writeE s i = 22 ∧ Dk.write s i p = s) := Lib.hid ⟨by unfold Dk.writeE; rw [HE.out, if_neg (by omega)], by unfold Dk.write; rw [HE.out, if_neg (by omega)]⟩
      have hno := Dk.has_no hh'
      rw [HW.out.1, HW.out.2]
      clear h hd hnd hh hh' HE HW
      by_cases t1 : i < 0
      · clear hno
        go_enter Try.func11, Try.ntmps11
        go_wp2
        go_ret
        exact ⟨rfl, HD.out, HO.out⟩
      · have t2 : (s.last.length : Int) ≤ i := by omega
        clear hno
        go_enter Try.func11, Try.ntmps11
        go_wp2
        go_ret
        exact ⟨rfl, HD.out, HO.out⟩
end Go.Proofs.Ytaiikpfgnamgiaa
