/-
  The contract of journal's changes, where they count.
-/
import Derived.Test.YtppbiohjhnoagaaGreatMjb
namespace Go.Proofs.YtppbiohjhnoagaaGreat
open Go.RowKit
open Dk (zeros zeros_length)
open Hd (Head rightB pageH)
open Jn (Chg)

section
variable {ops : Array Oper} {S : World → Prop}
set_option maxRecDepth 100000 in
theorem yields_reg {oi : Oper} {a : Act} {b d g z : Nat} (hw : Region.wanted oi (yielded ops a.tmps) = true) (x : Operand) (ho : oi.op = .load 92 x) (hx : a.eval x = .pointer (some ⟨b, 0, none⟩)) (hS : ∀ w, S w → w.rangeAt b 0 (regVals d g z)) :
    YieldsIf Tryz.prog ops S oi (regV d g z) a :=
  yieldsIf_load_mid hw 92 x ho b 0 hx (regVals d g z) _ hS Tryz.underlying92 rfl reg_info
set_option maxRecDepth 100000 in
theorem yields_head {t : TypeId} (ht : HeadT t) {oi : Oper} {a : Act} {b : Nat} {h : Head} (hw : Region.wanted oi (yielded ops a.tmps) = true) (x : Operand) (ho : oi.op = .load t x) (hx : a.eval x = .pointer (some ⟨b, 0, none⟩)) (hS : ∀ w, S w → HeadAt w b h) :
    YieldsIf Tryz.prog ops S oi (headV h) a := by
  obtain ⟨d, hd, hr⟩ := ht.row
  exact yieldsIf_load_mid hw t x ho b 0 hx (headVals h) d (fun w k => (hS w k).range) hd hr ht.info
end
structure ChgI (w : World) (d l m : Nat) (s : Dk.St) (B1 a z B2 : Nat) (hd : Head) (W : World) : Prop where
  disk : DiskAt W d l m s
  reg : RowAt W B1 (regVals d a z)
  head : HeadAt W B2 hd
  below : Below w.heap.size w W
set_option maxRecDepth 100000 in
theorem ChgI.call {w : World} {d l m : Nat} {s : Dk.St} {B1 a z B2 : Nat} {hd : Head} {W W' : World} (h : ChgI w d l m s B1 a z B2 hd W) (hb : Below W.heap.size W W') : ChgI w d l m s B1 a z B2 hd W' :=
  ⟨h.disk.below hb, h.reg.below hb h.reg.lt, h.head.below hb h.head.lt, h.below.trans (hb.mono h.below.size)⟩
set_option maxRecDepth 100000 in
theorem ChgI.drew {w : World} {d l m : Nat} {s : Dk.St} {B1 a z B2 : Nat} {hd : Head} {W : World} (h : ChgI w d l m s B1 a z B2 hd W) : ChgI w d l m s B1 a z B2 hd W.drew := h.call (Below.refl _ _).drew
set_option maxRecDepth 100000 in
theorem chgI_start {w : World} {d l m : Nat} {s : Dk.St} (a z : Nat) (hd : Head) (h : DiskAt w d l m s) (t1 t2 : TypeId) : ChgI w d l m s w.heap.size a z (w.heap.size + 1) hd ((w.alloc (.cells (regVals d a z).toArray t1)).alloc (.cells (headVals hd).toArray t2)) where
  disk := (h.alloc _).alloc _
  reg := (rowAt_new w _ t1).alloc _
  head := by
    have := headAt_new (w.alloc (.cells (regVals d a z).toArray t1)) hd t2
    have e : (w.alloc (.cells (regVals d a z).toArray t1)).heap.size = w.heap.size + 1 := by simp
    rw [e] at this
    exact this
  below := ((Below.refl _ _).alloc (Nat.le_refl _) _).alloc (by simp) _

set_option maxRecDepth 100000 in
set_option maxHeartbeats 4000000 in
theorem changes_yes {w : World} {d l m : Nat} {s : Dk.St} (h : DiskAt w d l m s) (a z r k : Nat) (hroom : RoomIs z r) (ha : a ≤ 900) (hz : z ≤ 900) (_hr : r ≤ 900) (hd : Head) (hk : hd.count = (k : Int)) (h1 : 1 ≤ k) (h2 : k ≤ 32) (h3 : k ≤ r) (hup : s.down = false) (hreg : a + 1 + (1 + k) ≤ s.last.length)
    (hsum : Jn.sumN (rdN s (a + 1) (1 + k)) = hd.sum) (hoth : ∀ c ∈ Jn.outN (rdN s (a + 1) (1 + k)) k, otherB s.last.length a z c.no = true ∧ c.page.length = 64) :
    Calls Tryz.prog 67 #[regV d a z, headV hd] w fun e w' => ∃ cb, e = .returned (.tuple #[.slice (some ⟨cb, 0, none⟩) k k, .int .i64 0]) ∧ ChTab w' cb (Jn.outN (rdN s (a + 1) (1 + k)) k) ∧ w.heap.size ≤ cb ∧ cb < w'.heap.size ∧ Below w.heap.size w w' := by
  have HI := Lib.hid (chgI_start a z hd h 92 117)
  have HRM : Hid (∀ w, Calls Tryz.prog 46 #[.int .i64 (z : Int)] w fun e w' => e = .returned (.int .i64 (r : Int)) ∧ w = w') := Lib.hid hroom
  have HLS := Lib.hid (lists_one k h1 h2)
  have HOK := Lib.hid h.ok
  have HG : Hid (∀ W, ChgI w d l m s w.heap.size a z (w.heap.size + 1) hd W → Calls Tryz.prog 87 #[regV d a z, .int .i64 ((a : Int) + 1), .int .i64 (1 + (k : Int))] W fun e w' => e = .returned (.tuple #[.slice (some ⟨W.heap.size + 1, 0, none⟩) (1 + k) (1 + k), .int .i64 0]) ∧ RowsAt w' (W.heap.size + 1) (rdN s (a + 1) (1 + k)) ∧ Below W.heap.size W w') := Lib.hid (fun W hW => by
    have := getp_any hW.disk a z (a + 1) (1 + k) (by omega) (by omega) hup hreg
    rw [show ((a + 1 : Nat) : Int) = (a : Int) + 1 by omega, show ((1 + k : Nat) : Int) = 1 + (k : Int) by omega] at this
    exact this)
  have HPL := Lib.hid (rdN_length s (a + 1) (1 + k))
  have HSM : Hid (∀ W lb, RowsAt W lb (rdN s (a + 1) (1 + k)) → Calls Tryz.prog 79 #[.slice (some ⟨lb, 0, none⟩) (1 + k) (1 + k)] W fun e w' => e = .returned (.int .u32 hd.sum) ∧ Below W.heap.size W w') := Lib.hid (fun W lb hT => by
    have hrow := (hT.slice (L := []) (by simp)).row (by rw [rdN_length]; omega) hT.size
    rw [rdN_length] at hrow
    have := sumPages_any _ _ (1 + k) _ W hrow (by omega) (by omega)
    rw [hsum] at this
    exact this)
  have HOT := Lib.hid hoth
  have HSZ := Lib.hid h.ok.small
  clear h hroom hup hreg hsum hoth
  generalize hps : rdN s (a + 1) (1 + k) = ps at HG HPL HSM HOT ⊢
  clear hps
  obtain ⟨hq, hlv, hct, hsm⟩ := hd
  simp only at hk HSM
  subst hk
  obtain ⟨hd, hhd⟩ : ∃ hd : Head, hd = ⟨hq, hlv, (k : Int), hsm⟩ := ⟨_, rfl⟩
  have e3 : hd.sum = hsm := by rw [hhd]
  have e2 : hd.count = (k : Int) := by rw [hhd]
  rw [← hhd] at HI HG ⊢
  have hhv : headV hd = .agg #[.int .i64 hq, .bool hlv, .int .i64 (k : Int), .int .u32 hsm] := by rw [hhd]; rfl
  have hhw : (headVals hd).toArray = #[.int .i64 hq, .bool hlv, .int .i64 (k : Int), .int .u32 hsm] := by rw [hhd]; rfl
  rw [hhv]
  rw [hhw] at HI
  rw [← e3] at HSM
  clear hhv hhw hhd
  unfold regV
  unfold regVals at HI
  go_enter Tryz.func67, Tryz.ntmps67
  go_wp2_with fail
  generalize ((w.alloc (.cells _ 92)).alloc (.cells _ 117)) = w1 at HI ⊢
  generalize hB1 : w.heap.size = B1 at HI HG ⊢
  generalize hB2 : B1 + 1 = B2 at HI HG ⊢
  clear hB2
  have HB1 := Lib.hid hB1
  clear hB1
  have hq3 : IntKind.i64.wrap ((a : Int) + 1) = (a : Int) + 1 := IntWalk.i64_in _ (by omega)
  have hq4 : IntKind.i64.wrap (1 + (k : Int)) = 1 + (k : Int) := IntWalk.i64_in _ (by omega)
  have hq5 : ¬ ((r : Int) < (k : Int)) := by omega
  refine wp_region_noPanic ?_
  refine wp_region_held_drew (S := fun W => RowAt W B1 (regVals d a z) ∧ HeadAt W B2 hd) (by kernel_rfl) ⟨HI.out.reg.drew, HI.out.head.drew⟩ (fun hHeld => ?_)
  have HI1 := Lib.hid (HI.out.drew)
  clear HI
  generalize w1.drew = w2 at HI1 hHeld ⊢
  refine take_at (i := 0) (d := some 11) (v := .pointer (some ⟨B2, 2, none⟩)) rfl rfl (by kernel_rfl) (by kernel_rfl) (by kernel_rfl) (fun _ _ _ h => h) (Or.inl ⟨by kernel_rfl, ?_⟩) hHeld ?_
  · intro w hSw; have c1 := hSw.1.cell 1 _ rfl; have c2 := hSw.1.cell 2 _ rfl; have g2 := hSw.2.c2; have g3 := hSw.2.c3; go_simp
  (try simp only [Act.put, List.setIfInBounds_toArray, List.set_cons_zero, List.set_cons_succ])
  refine take_at (i := 1) (d := some 12) (v := .int .i64 (k : Int)) rfl rfl (by kernel_rfl) (by kernel_rfl) (by kernel_rfl) (fun _ _ _ h => h) (Or.inl ⟨by kernel_rfl, ?_⟩) hHeld ?_
  · intro w hSw; have c1 := hSw.1.cell 1 _ rfl; have c2 := hSw.1.cell 2 _ rfl; have g2 := hSw.2.c2; have g3 := hSw.2.c3; go_simp
  (try simp only [Act.put, List.setIfInBounds_toArray, List.set_cons_zero, List.set_cons_succ])
  refine take_at (i := 2) (d := some 13) (v := .pointer (some ⟨B1, 2, none⟩)) rfl rfl (by kernel_rfl) (by kernel_rfl) (by kernel_rfl) (fun _ _ _ h => h) (Or.inl ⟨by kernel_rfl, ?_⟩) hHeld ?_
  · intro w hSw; have c1 := hSw.1.cell 1 _ rfl; have c2 := hSw.1.cell 2 _ rfl; have g2 := hSw.2.c2; have g3 := hSw.2.c3; go_simp
  (try simp only [Act.put, List.setIfInBounds_toArray, List.set_cons_zero, List.set_cons_succ])
  refine take_at (i := 3) (d := some 14) (v := .int .i64 (z : Int)) rfl rfl (by kernel_rfl) (by kernel_rfl) (by kernel_rfl) (fun _ _ _ h => h) (Or.inl ⟨by kernel_rfl, ?_⟩) hHeld ?_
  · intro w hSw; have c1 := hSw.1.cell 1 _ rfl; have c2 := hSw.1.cell 2 _ rfl; have g2 := hSw.2.c2; have g3 := hSw.2.c3; go_simp
  (try simp only [Act.put, List.setIfInBounds_toArray, List.set_cons_zero, List.set_cons_succ])
  refine wpAnyH_ready (rs := [4]) (by kernel_rfl) (by simp) ?_
  refine AllReadyH.cons rfl (fun K hK => ?_) AllReadyH.nil
  go_simp
  (go_at_call 46; refine (HRM.out _).mono ?_; rintro e W' ⟨rfl, rfl⟩)
  (try go_wp2_with fail)
  refine hK.out _ _ hHeld (fun hHeld => ?_)
  clear hK K
  (try simp only [Act.put, List.setIfInBounds_toArray, List.set_cons_zero, List.set_cons_succ])
  refine take_at (i := 5) (d := some 16) (v := .bool false) rfl rfl (by kernel_rfl) (by kernel_rfl) (by kernel_rfl) (fun _ _ _ h => h) (Or.inl ⟨by kernel_rfl, ?_⟩) hHeld ?_
  · intro w hSw; have c1 := hSw.1.cell 1 _ rfl; have c2 := hSw.1.cell 2 _ rfl; have g2 := hSw.2.c2; have g3 := hSw.2.c3; go_simp
  (try simp only [Act.put, List.setIfInBounds_toArray, List.set_cons_zero, List.set_cons_succ])
  refine wpAnyH_done (by kernel_rfl) ?_ _
  refine NoPanic.normal ?_
  go_wp2_with fail
  refine wp_region_noPanic ?_
  refine wp_region_held_drew (S := fun W => RowAt W B1 (regVals d a z) ∧ HeadAt W B2 hd) (by kernel_rfl) ⟨HI1.out.reg.drew, HI1.out.head.drew⟩ (fun hHeld => ?_)
  have HI2 := Lib.hid (HI1.out.drew)
  clear HI1
  generalize w2.drew = w3 at HI2 hHeld ⊢
  refine take_at (i := 0) (d := some 18) (v := regV d a z) rfl rfl (by kernel_rfl) (by kernel_rfl) (by kernel_rfl) (fun _ _ _ h => h) (yields_reg (by kernel_rfl) (.tmp 2) rfl rfl (fun _ hSw => hSw.1.range)) hHeld ?_
  (try simp only [Act.put, List.setIfInBounds_toArray, List.set_cons_zero, List.set_cons_succ])
  refine take_at (i := 1) (d := some 19) (v := .pointer (some ⟨B1, 1, none⟩)) rfl rfl (by kernel_rfl) (by kernel_rfl) (by kernel_rfl) (fun _ _ _ h => h) (Or.inl ⟨by kernel_rfl, ?_⟩) hHeld ?_
  · intro w hSw; have c1 := hSw.1.cell 1 _ rfl; have c2 := hSw.1.cell 2 _ rfl; have g2 := hSw.2.c2; have g3 := hSw.2.c3; go_simp
  (try simp only [Act.put, List.setIfInBounds_toArray, List.set_cons_zero, List.set_cons_succ])
  refine take_at (i := 2) (d := some 20) (v := .int .i64 (a : Int)) rfl rfl (by kernel_rfl) (by kernel_rfl) (by kernel_rfl) (fun _ _ _ h => h) (Or.inl ⟨by kernel_rfl, ?_⟩) hHeld ?_
  · intro w hSw; have c1 := hSw.1.cell 1 _ rfl; have c2 := hSw.1.cell 2 _ rfl; have g2 := hSw.2.c2; have g3 := hSw.2.c3; go_simp
  (try simp only [Act.put, List.setIfInBounds_toArray, List.set_cons_zero, List.set_cons_succ])
  refine take_at (i := 3) (d := some 21) (v := .int .i64 ((a : Int) + 1)) rfl rfl (by kernel_rfl) (by kernel_rfl) (by kernel_rfl) (fun _ _ _ h => h) (Or.inl ⟨by kernel_rfl, ?_⟩) hHeld ?_
  · intro w hSw; have c1 := hSw.1.cell 1 _ rfl; have c2 := hSw.1.cell 2 _ rfl; have g2 := hSw.2.c2; have g3 := hSw.2.c3; go_simp
  (try simp only [Act.put, List.setIfInBounds_toArray, List.set_cons_zero, List.set_cons_succ])
  refine take_at (i := 4) (d := some 22) (v := .pointer (some ⟨B2, 2, none⟩)) rfl rfl (by kernel_rfl) (by kernel_rfl) (by kernel_rfl) (fun _ _ _ h => h) (Or.inl ⟨by kernel_rfl, ?_⟩) hHeld ?_
  · intro w hSw; have c1 := hSw.1.cell 1 _ rfl; have c2 := hSw.1.cell 2 _ rfl; have g2 := hSw.2.c2; have g3 := hSw.2.c3; go_simp
  (try simp only [Act.put, List.setIfInBounds_toArray, List.set_cons_zero, List.set_cons_succ])
  refine take_at (i := 5) (d := some 23) (v := .int .i64 (k : Int)) rfl rfl (by kernel_rfl) (by kernel_rfl) (by kernel_rfl) (fun _ _ _ h => h) (Or.inl ⟨by kernel_rfl, ?_⟩) hHeld ?_
  · intro w hSw; have c1 := hSw.1.cell 1 _ rfl; have c2 := hSw.1.cell 2 _ rfl; have g2 := hSw.2.c2; have g3 := hSw.2.c3; go_simp
  (try simp only [Act.put, List.setIfInBounds_toArray, List.set_cons_zero, List.set_cons_succ])
  refine take_at (i := 7) (d := some 25) (v := .pointer (some ⟨B2, 2, none⟩)) rfl rfl (by kernel_rfl) (by kernel_rfl) (by kernel_rfl) (fun _ _ _ h => h) (Or.inl ⟨by kernel_rfl, ?_⟩) hHeld ?_
  · intro w hSw; have c1 := hSw.1.cell 1 _ rfl; have c2 := hSw.1.cell 2 _ rfl; have g2 := hSw.2.c2; have g3 := hSw.2.c3; go_simp
  (try simp only [Act.put, List.setIfInBounds_toArray, List.set_cons_zero, List.set_cons_succ])
  refine take_at (i := 8) (d := some 26) (v := .int .i64 (k : Int)) rfl rfl (by kernel_rfl) (by kernel_rfl) (by kernel_rfl) (fun _ _ _ h => h) (Or.inl ⟨by kernel_rfl, ?_⟩) hHeld ?_
  · intro w hSw; have c1 := hSw.1.cell 1 _ rfl; have c2 := hSw.1.cell 2 _ rfl; have g2 := hSw.2.c2; have g3 := hSw.2.c3; go_simp
  (try simp only [Act.put, List.setIfInBounds_toArray, List.set_cons_zero, List.set_cons_succ])
  refine wpAnyH_ready (rs := [6]) (by kernel_rfl) (by simp) ?_
  refine AllReadyH.cons rfl (fun K hK => ?_) AllReadyH.nil
  go_simp
  (go_at_call 88; refine (HLS.out _).mono ?_; rintro e W' ⟨rfl, rfl⟩)
  (try go_wp2_with fail)
  refine hK.out _ _ hHeld (fun hHeld => ?_)
  clear hK K
  (try simp only [Act.put, List.setIfInBounds_toArray, List.set_cons_zero, List.set_cons_succ])
  refine take_at (i := 9) (d := some 27) (v := .int .i64 (1 + (k : Int))) rfl rfl (by kernel_rfl) (by kernel_rfl) (by kernel_rfl) (fun _ _ _ h => h) (Or.inl ⟨by kernel_rfl, ?_⟩) hHeld ?_
  · intro w hSw; have c1 := hSw.1.cell 1 _ rfl; have c2 := hSw.1.cell 2 _ rfl; have g2 := hSw.2.c2; have g3 := hSw.2.c3; go_simp
  (try simp only [Act.put, List.setIfInBounds_toArray, List.set_cons_zero, List.set_cons_succ])
  refine wpAnyH_ready (rs := [10]) (by kernel_rfl) (by simp) ?_
  refine AllReadyH.cons rfl (fun K hK => ?_) AllReadyH.nil
  go_simp
  (go_at_call 87; refine (HG.out _ HI2.out).mono ?_; rintro e w4 ⟨rfl, ht4, hB4⟩; have HI4 := Lib.hid (HI2.out.call hB4); have HT4 := Lib.hid ht4; have HLT4 : Hid (w3.heap.size + 1 < w4.heap.size) := Lib.hid (ht4.lt (by rw [HPL.out]; omega)); clear ht4 hB4)
  (try go_wp2_with fail)
  refine hK.out _ _ ⟨HI4.out.reg, HI4.out.head⟩ (fun hHeld => ?_)
  clear hK K
  (try simp only [Act.put, List.setIfInBounds_toArray, List.set_cons_zero, List.set_cons_succ])
  generalize w3.heap.size + 1 = lb at HT4 HLT4 ⊢
  refine take_at (i := 11) (d := some 17) (v := .tuple #[.slice (some ⟨lb, 0, none⟩) (1 + k) (1 + k), .int .i64 0]) rfl rfl (by kernel_rfl) (by kernel_rfl) (by kernel_rfl) (fun _ _ _ h => h) (Or.inl ⟨by kernel_rfl, ?_⟩) hHeld ?_
  · intro w hSw; have c1 := hSw.1.cell 1 _ rfl; have c2 := hSw.1.cell 2 _ rfl; have g2 := hSw.2.c2; have g3 := hSw.2.c3; go_simp
  (try simp only [Act.put, List.setIfInBounds_toArray, List.set_cons_zero, List.set_cons_succ])
  refine take_at (i := 12) (d := some 29) (v := .slice (some ⟨lb, 0, none⟩) (1 + k) (1 + k)) rfl rfl (by kernel_rfl) (by kernel_rfl) (by kernel_rfl) (fun _ _ _ h => h) (Or.inl ⟨by kernel_rfl, ?_⟩) hHeld ?_
  · intro w hSw; have c1 := hSw.1.cell 1 _ rfl; have c2 := hSw.1.cell 2 _ rfl; have g2 := hSw.2.c2; have g3 := hSw.2.c3; go_simp
  (try simp only [Act.put, List.setIfInBounds_toArray, List.set_cons_zero, List.set_cons_succ])
  refine take_at (i := 13) (d := some 30) (v := .int .i64 0) rfl rfl (by kernel_rfl) (by kernel_rfl) (by kernel_rfl) (fun _ _ _ h => h) (Or.inl ⟨by kernel_rfl, ?_⟩) hHeld ?_
  · intro w hSw; have c1 := hSw.1.cell 1 _ rfl; have c2 := hSw.1.cell 2 _ rfl; have g2 := hSw.2.c2; have g3 := hSw.2.c3; go_simp
  (try simp only [Act.put, List.setIfInBounds_toArray, List.set_cons_zero, List.set_cons_succ])
  refine take_at (i := 14) (d := some 6) (v := .slice (some ⟨lb, 0, none⟩) (1 + k) (1 + k)) rfl rfl (by kernel_rfl) (by kernel_rfl) (by kernel_rfl) (fun _ _ _ h => h) (Or.inl ⟨by kernel_rfl, ?_⟩) hHeld ?_
  · intro w hSw; have c1 := hSw.1.cell 1 _ rfl; have c2 := hSw.1.cell 2 _ rfl; have g2 := hSw.2.c2; have g3 := hSw.2.c3; go_simp
  (try simp only [Act.put, List.setIfInBounds_toArray, List.set_cons_zero, List.set_cons_succ])
  refine take_at (i := 15) (d := some 7) (v := .int .i64 0) rfl rfl (by kernel_rfl) (by kernel_rfl) (by kernel_rfl) (fun _ _ _ h => h) (Or.inl ⟨by kernel_rfl, ?_⟩) hHeld ?_
  · intro w hSw; have c1 := hSw.1.cell 1 _ rfl; have c2 := hSw.1.cell 2 _ rfl; have g2 := hSw.2.c2; have g3 := hSw.2.c3; go_simp
  (try simp only [Act.put, List.setIfInBounds_toArray, List.set_cons_zero, List.set_cons_succ])
  refine wpAnyH_done (by kernel_rfl) ?_ _
  refine NoPanic.normal ?_
  go_wp2_with fail
  refine wp_region_noPanic ?_
  refine wp_region_held_drew (S := fun W => RowAt W B1 (regVals d a z) ∧ HeadAt W B2 hd) (by kernel_rfl) ⟨HI4.out.reg.drew, HI4.out.head.drew⟩ (fun hHeld => ?_)
  have HI5 := Lib.hid (HI4.out.drew)
  have HT5 := Lib.hid (HT4.out.block (w' := w4.drew) rfl)
  have HLT5 : Hid (lb < w4.drew.heap.size) := Lib.hid HLT4.out
  clear HI4 HT4 HLT4
  generalize w4.drew = w5 at HI5 HT5 HLT5 hHeld ⊢
  refine take_at (i := 0) (d := some 34) (v := .slice (some ⟨lb, 0, none⟩) (1 + k) (1 + k)) rfl rfl (by kernel_rfl) (by kernel_rfl) (by kernel_rfl) (fun _ _ _ h => h) (Or.inl ⟨by kernel_rfl, ?_⟩) hHeld ?_
  · intro w hSw; have c1 := hSw.1.cell 1 _ rfl; have c2 := hSw.1.cell 2 _ rfl; have g2 := hSw.2.c2; have g3 := hSw.2.c3; go_simp
  (try simp only [Act.put, List.setIfInBounds_toArray, List.set_cons_zero, List.set_cons_succ])
  refine take_at (i := 2) (d := some 36) (v := .pointer (some ⟨B2, 3, none⟩)) rfl rfl (by kernel_rfl) (by kernel_rfl) (by kernel_rfl) (fun _ _ _ h => h) (Or.inl ⟨by kernel_rfl, ?_⟩) hHeld ?_
  · intro w hSw; have c1 := hSw.1.cell 1 _ rfl; have c2 := hSw.1.cell 2 _ rfl; have g2 := hSw.2.c2; have g3 := hSw.2.c3; go_simp
  (try simp only [Act.put, List.setIfInBounds_toArray, List.set_cons_zero, List.set_cons_succ])
  refine take_at (i := 3) (d := some 37) (v := .int .u32 hd.sum) rfl rfl (by kernel_rfl) (by kernel_rfl) (by kernel_rfl) (fun _ _ _ h => h) (Or.inl ⟨by kernel_rfl, ?_⟩) hHeld ?_
  · intro w hSw; have c1 := hSw.1.cell 1 _ rfl; have c2 := hSw.1.cell 2 _ rfl; have g2 := hSw.2.c2; have g3 := hSw.2.c3; go_simp
  (try simp only [Act.put, List.setIfInBounds_toArray, List.set_cons_zero, List.set_cons_succ])
  refine wpAnyH_ready (rs := [1]) (by kernel_rfl) (by simp) ?_
  refine AllReadyH.cons rfl (fun K hK => ?_) AllReadyH.nil
  go_simp
  (go_at_call 79; refine (HSM.out _ _ HT5.out).mono ?_; rintro e w6 ⟨rfl, hB6⟩; have HI6 := Lib.hid (HI5.out.call hB6); have HT6 := Lib.hid (HT5.out.below hB6 HLT5.out); have HLT6 : Hid (lb < w6.heap.size) := Lib.hid (Nat.lt_of_lt_of_le HLT5.out hB6.size); clear hB6)
  (try go_wp2_with fail)
  refine hK.out _ _ ⟨HI6.out.reg, HI6.out.head⟩ (fun hHeld => ?_)
  clear hK K
  (try simp only [Act.put, List.setIfInBounds_toArray, List.set_cons_zero, List.set_cons_succ])
  refine take_at (i := 4) (d := some 38) (v := .bool false) rfl rfl (by kernel_rfl) (by kernel_rfl) (by kernel_rfl) (fun _ _ _ h => h) (Or.inl ⟨by kernel_rfl, ?_⟩) hHeld ?_
  · intro w hSw; have c1 := hSw.1.cell 1 _ rfl; have c2 := hSw.1.cell 2 _ rfl; have g2 := hSw.2.c2; have g3 := hSw.2.c3; go_simp
  (try simp only [Act.put, List.setIfInBounds_toArray, List.set_cons_zero, List.set_cons_succ])
  refine wpAnyH_done (by kernel_rfl) ?_ _
  refine NoPanic.normal ?_
  clear hq3 hq4 hq5
  have g2 := HI6.out.head.c2
  rw [e2] at g2
  go_wp2_with fail
  refine (laidOut_any lb k ps HT6.out HPL.out h1 h2).mono ?_
  rintro e w7 ⟨cb, rfl, hc7, hcb, hlt7, hB7⟩
  have HI7 := Lib.hid (HI6.out.call hB7)
  have HC7 := Lib.hid hc7
  have HCB : Hid (w.heap.size ≤ cb) := Lib.hid (Nat.le_trans HI6.out.below.size hcb)
  have HLT7 := Lib.hid hlt7
  clear hc7 hcb hlt7 hB7 HI6 HT6 HLT6 g2
  have HCL := Lib.hid (Jn.out_length ps k)
  generalize hcs : Jn.outN ps k = cs at HC7 HCL HOT
  have HCS := Lib.hid hcs
  clear hcs
  go_wp2_with fail
  go_loopw [45] (fun i wr => ∃ (x : Nat), x ≤ k ∧ i = .int .i64 x ∧ ChgI w d l m s B1 a z B2 hd wr ∧ ChTab wr cb cs ∧ cb < wr.heap.size) (fun i _ => k - (intOf i).toNat)
  case atStart => exact ⟨0, Nat.zero_le _, rfl, HI7.out, HC7.out, HLT7.out⟩
  case round =>
    obtain ⟨x, hx, rfl, hci, hct, hcl⟩ := hrel
    have HI8 := Lib.hid hci
    have HC8 := Lib.hid hct
    have HL8 := Lib.hid hcl
    clear hci hct hcl HI7 HC7 HLT7
    by_cases hlt : x < k
    · obtain ⟨c, hcx⟩ : ∃ c, cs[x]? = some c := ⟨_, List.getElem?_eq_getElem (by rw [HCL.out]; exact hlt)⟩
      have HCR := Lib.hid (HC8.out.range x c hcx)
      have HCO := Lib.hid (HOT.out c (List.mem_of_getElem? hcx))
      clear hcx
      have hzc := zeroChg
      have HPG : Hid (c.page.length = 64) := Lib.hid HCO.out.2
      go_wp2_with (first
        | ((with_reducible refine wpList_load_chg HCR.out HPG.out rfl (.tmp 47) rfl ?_ ?_); (exact rfl))
        | ((with_reducible refine wpList_store_newchg HPG.out rfl (.tmp 10) (.tmp 48) rfl rfl ?_ chgZero_size ?_); (exact rfl); intro W9 hP hB9 hz9; have HI9 := Lib.hid (HI8.out.call hB9); have HC9 := Lib.hid (HC8.out.below hB9 HL8.out); have HL9 : Hid (cb < W9.heap.size) := Lib.hid (Nat.lt_of_lt_of_le HL8.out hB9.size); have hv0 := ChVar.no hP; clear HI8 HC8 HL8 HCR hP hB9 hz9; generalize wr.heap.size = B at hv0 ⊢)
        | (with_reducible refine wpList_load_reg HI9.out.reg.range rfl (.tmp 2) rfl rfl ?_))
      refine (other_any HI9.out.disk a z (by omega) (by omega) c.no).mono ?_
      rintro e W10 ⟨rfl, hB10⟩
      rw [HCO.out.1]
      have HI10 := Lib.hid (HI9.out.call hB10)
      have HC10 := Lib.hid (HC9.out.below hB10 HL9.out)
      have HL10 : Hid (cb < W10.heap.size) := Lib.hid (Nat.lt_of_lt_of_le HL9.out hB10.size)
      clear HI9 HC9 HL9 hv0 hB10
      go_wp2
      go_roundw
      case rel => exact ⟨x + 1, by omega, by go_num, HI10.out, HC10.out, HL10.out⟩
      case measure => simp [intOf]; omega
    · obtain rfl : x = k := by omega
      go_wp2_with fail
      go_ret2
      rw [← HB1.out]
      exact ⟨cb, rfl, by rw [HCS.out]; exact HC8.out, HCB.out, HL8.out, HI8.out.below⟩
end Go.Proofs.YtppbiohjhnoagaaGreat

/-
  The contract of a journal's lead: a head is written, and flushed.
-/
namespace Go.Proofs.YtppbiohjhnoagaaGreat
open Go.RowKit
open Dk (zeros zeros_length)
open Hd (Head rightB pageH)
open Jn (Chg)

set_option maxRecDepth 100000 in
set_option maxHeartbeats 4000000 in
theorem lead_any {w : World} {j d l m a z : Nat} {q : Int} {o : Bool} {s : Dk.St} (hj : JAt w j d a z q o) (h : DiskAt w d l m s) (hjd : j ∉ [d, l, m]) (ha : a ≤ 900) (hd : Head) (hr : rightB hd = true) (hs0 : 0 ≤ hd.sum) (hs1 : hd.sum < 4294967296) :
    Calls Tryz.prog 65 #[.pointer (some ⟨j, 0, none⟩), headV hd] w fun e w' => e = .returned (.int .i64 (Jn.runW s [⟨(a : Int), pageH hd⟩]).2) ∧ DiskAt w' d l m (Jn.runW s [⟨(a : Int), pageH hd⟩]).1 ∧ JAt w' j d a z hd.seq o ∧ Only [d, l, m, j] w w' := by
  have HE := Lib.hid (fun (w : World) => encode_yes hd w hr hs0 hs1)
  have HPL := Lib.hid (Hd.pageH_length hd)
  generalize pageH hd = pg at HE HPL ⊢
  have HJ := Lib.hid (hj.below (w' := w.alloc (.cells (headVals hd).toArray 117)) ((Below.refl _ _).alloc (Nat.le_refl _) _))
  have HD := Lib.hid (h.alloc (.cells (headVals hd).toArray 117))
  have HH := Lib.hid (headAt_new w hd 117)
  have HO : Hid (Only [d, l, m, j] w (w.alloc (.cells (headVals hd).toArray 117))) := Lib.hid ((Only.refl _ _).alloc _)
  have HJD := Lib.hid hjd
  have HBJ : Hid (w.heap.size ≠ j) := Lib.hid (by have := hj.lt; omega)
  have HJL := Lib.hid hj.lt
  have HBD : Hid (d < w.heap.size ∧ l < w.heap.size ∧ m < w.heap.size) := Lib.hid ⟨h.dlt, h.llt, h.mlt⟩
  clear hj h hr hs0 hs1 hjd
  obtain ⟨hq, hlv, hct, hsm⟩ := hd
  obtain ⟨hd, hhd⟩ : ∃ hd : Head, hd = ⟨hq, hlv, hct, hsm⟩ := ⟨_, rfl⟩
  have hhv : headV hd = .agg #[.int .i64 hq, .bool hlv, .int .i64 hct, .int .u32 hsm] := by rw [hhd]; rfl
  have hhw : (headVals hd).toArray = #[.int .i64 hq, .bool hlv, .int .i64 hct, .int .u32 hsm] := by rw [hhd]; rfl
  rw [← hhd] at HE HJ HD HH HO ⊢
  rw [hhw] at HJ HD HH HO
  rw [hhv]
  clear hhv hhw hhd
  go_enter Tryz.func65, Tryz.ntmps65
  go_wp2_with (with_reducible refine wpList_load_head headT HH.out rfl (.tmp 3) rfl rfl ?_)
  generalize w.alloc (.cells _ 117) = w1 at HJ HD HH HO ⊢
  have HBO : Hid (∀ x, w.heap.size ≤ x → x ∉ [d, l, m, j]) := Lib.hid (fun x hx => by have := HBD.out; have := HJL.out; simp; omega)
  generalize w.heap.size = B at HH HBJ HBO ⊢
  refine (HE.out _).mono ?_
  rintro e w2 ⟨rfl, hB2⟩
  have HJ2 := Lib.hid (HJ.out.below hB2)
  have HD2 := Lib.hid (HD.out.below hB2)
  have HH2 := Lib.hid (HH.out.below hB2 HH.out.lt)
  have HO2 := Lib.hid (HO.out.ofBelow hB2)
  clear HJ HD HH HO hB2 HE
  go_wp2_with ((with_reducible refine wpList_store_new rfl (.tmp 5) (.tmp 10) rfl rfl ?_ ?_ HPL.out ?_); (exact rfl); (exact rfl); intro w3 hP hB3 hz3; have HJ3 := Lib.hid (HJ2.out.below hB3); have HD3 := Lib.hid (HD2.out.below hB3); have HH3 := Lib.hid (HH2.out.below hB3 HH2.out.lt); have HO3 := Lib.hid (HO2.out.ofBelow hB3); have HP3 := Lib.hid hP; have HC : Hid (w2.heap.size ∉ [d, l, m] ∧ w2.heap.size ≠ j) := Lib.hid (by have := HD2.out.dlt; have := HD2.out.llt; have := HD2.out.mlt; have := HJ2.out.lt; simp; omega); have g0 := HH3.out.c0; have j3 := HJ3.out.c3; have j4 := HJ3.out.f 3 (by omega); clear HJ2 HD2 HH2 HO2 hP hB3 hz3; generalize w2.heap.size = C at HP3 HC ⊢)
  have HJ5 := Lib.hid (HJ3.out.setSeq hd.seq)
  have HD5 := Lib.hid (HD3.out.only (L := [j]) ((Only.refl [j] w3).setCell (p := ⟨j, 3, none⟩) (by simp) (.int .i64 hd.seq)) (fun e => HJD.out (by simp at e ⊢; omega)) (fun e => HJD.out (by simp at e ⊢; omega)) (fun e => HJD.out (by simp at e ⊢; omega)))
  have HP5 := Lib.hid (HP3.out.set_other j 3 (.int .i64 hd.seq) HC.out.2)
  have HO5 : Hid (Only [d, l, m, j] w (w3.setCell ⟨j, 3, none⟩ (.int .i64 hd.seq))) := Lib.hid (HO3.out.setCell (by simp) _)
  have HCD : Hid (C ∉ [d, l, m]) := Lib.hid HC.out.1
  clear HJ3 HD3 HP3 HO3 HH3 g0 j3 j4 HC
  generalize w3.setCell ⟨j, 3, none⟩ (.int .i64 hd.seq) = w5 at HJ5 HD5 HP5 HO5 ⊢
  refine wp_region_noPanic ?_
  refine wp_region_held_drew (S := fun W => JAt W j d a z hd.seq o ∧ PageAt W C pg) (by kernel_rfl) ⟨HJ5.out.below (Below.refl _ _).drew, HP5.out.drew⟩ (fun hHeld => ?_)
  have HJ6 := Lib.hid (HJ5.out.below (Below.refl _ _).drew)
  have HP6 := Lib.hid HP5.out.drew
  have HD6 := Lib.hid HD5.out.drew
  have HO6 := Lib.hid HO5.out.drew
  clear HJ5 HP5 HD5 HO5
  generalize w5.drew = w6 at HJ6 HP6 HD6 HO6 hHeld ⊢
  refine take_at (i := 0) (d := some 19) (v := .pointer (some ⟨j, 0, none⟩)) rfl rfl (by kernel_rfl) (by kernel_rfl) (by kernel_rfl) (fun _ _ _ h => h) (Or.inl ⟨by kernel_rfl, ?_⟩) hHeld ?_
  · intro w hSw; have c1 := hSw.1.c1; go_simp
  (try simp only [Act.put, List.setIfInBounds_toArray, List.set_cons_zero, List.set_cons_succ])
  refine take_at (i := 1) (d := some 20) (v := .pointer (some ⟨j, 0, none⟩)) rfl rfl (by kernel_rfl) (by kernel_rfl) (by kernel_rfl) (fun _ _ _ h => h) (Or.inl ⟨by kernel_rfl, ?_⟩) hHeld ?_
  · intro w hSw; have c1 := hSw.1.c1; go_simp
  (try simp only [Act.put, List.setIfInBounds_toArray, List.set_cons_zero, List.set_cons_succ])
  refine take_at (i := 2) (d := some 21) (v := .pointer (some ⟨j, 0, none⟩)) rfl rfl (by kernel_rfl) (by kernel_rfl) (by kernel_rfl) (fun _ _ _ h => h) (Or.inl ⟨by kernel_rfl, ?_⟩) hHeld ?_
  · intro w hSw; have c1 := hSw.1.c1; go_simp
  (try simp only [Act.put, List.setIfInBounds_toArray, List.set_cons_zero, List.set_cons_succ])
  refine take_at (i := 3) (d := some 22) (v := regV d a z) rfl rfl (by kernel_rfl) (by kernel_rfl) (by kernel_rfl) (fun _ _ _ h => h) (yields_reg (by kernel_rfl) (.tmp 21) rfl rfl (fun _ hSw => hSw.1.reg)) hHeld ?_
  (try simp only [Act.put, List.setIfInBounds_toArray, List.set_cons_zero, List.set_cons_succ])
  refine take_at (i := 4) (d := some 23) (v := .pointer (some ⟨j, 0, none⟩)) rfl rfl (by kernel_rfl) (by kernel_rfl) (by kernel_rfl) (fun _ _ _ h => h) (Or.inl ⟨by kernel_rfl, ?_⟩) hHeld ?_
  · intro w hSw; have c1 := hSw.1.c1; go_simp
  (try simp only [Act.put, List.setIfInBounds_toArray, List.set_cons_zero, List.set_cons_succ])
  refine take_at (i := 5) (d := some 24) (v := .pointer (some ⟨j, 0, none⟩)) rfl rfl (by kernel_rfl) (by kernel_rfl) (by kernel_rfl) (fun _ _ _ h => h) (Or.inl ⟨by kernel_rfl, ?_⟩) hHeld ?_
  · intro w hSw; have c1 := hSw.1.c1; go_simp
  (try simp only [Act.put, List.setIfInBounds_toArray, List.set_cons_zero, List.set_cons_succ])
  refine take_at (i := 6) (d := some 25) (v := .pointer (some ⟨j, 0, none⟩)) rfl rfl (by kernel_rfl) (by kernel_rfl) (by kernel_rfl) (fun _ _ _ h => h) (Or.inl ⟨by kernel_rfl, ?_⟩) hHeld ?_
  · intro w hSw; have c1 := hSw.1.c1; go_simp
  (try simp only [Act.put, List.setIfInBounds_toArray, List.set_cons_zero, List.set_cons_succ])
  refine take_at (i := 7) (d := some 26) (v := .pointer (some ⟨j, 1, none⟩)) rfl rfl (by kernel_rfl) (by kernel_rfl) (by kernel_rfl) (fun _ _ _ h => h) (Or.inl ⟨by kernel_rfl, ?_⟩) hHeld ?_
  · intro w hSw; have c1 := hSw.1.c1; go_simp
  (try simp only [Act.put, List.setIfInBounds_toArray, List.set_cons_zero, List.set_cons_succ])
  refine take_at (i := 8) (d := some 27) (v := .int .i64 (a : Int)) rfl rfl (by kernel_rfl) (by kernel_rfl) (by kernel_rfl) (fun _ _ _ h => h) (Or.inl ⟨by kernel_rfl, ?_⟩) hHeld ?_
  · intro w hSw; have c1 := hSw.1.c1; go_simp
  (try simp only [Act.put, List.setIfInBounds_toArray, List.set_cons_zero, List.set_cons_succ])
  refine take_at (i := 9) (d := some 28) (v := pageV pg) rfl rfl (by kernel_rfl) (by kernel_rfl) (by kernel_rfl) (fun _ _ _ h => h) (yields_page (by kernel_rfl) (.tmp 5) rfl rfl HPL.out (fun _ hSw => hSw.2.range)) hHeld ?_
  (try simp only [Act.put, List.setIfInBounds_toArray, List.set_cons_zero, List.set_cons_succ])
  refine anyH_buildPage (i := 10) HPL.out (by kernel_rfl) rfl (by kernel_rfl) (.tmp 28) rfl rfl (some 29) rfl ⟨hHeld.1.below ((Below.refl _ _).alloc (Nat.le_refl _) _), hHeld.2.alloc _⟩ (fun hHeld => ?_)
  (try simp only [Act.put, List.setIfInBounds_toArray, List.set_cons_zero, List.set_cons_succ])
  have HD7 := Lib.hid (HD6.out.alloc (.cells (byteVals pg).toArray 38))
  have HO7 : Hid (Only [d, l, m, j] w (w6.alloc (.cells (byteVals pg).toArray 38))) := Lib.hid (HO6.out.alloc _)
  have HR7 : Hid (PgAt (w6.alloc (.cells (byteVals pg).toArray 38)) (some ⟨w6.heap.size, 0, none⟩) [d, l, m] [pg]) := Lib.hid ((rows_one w6 pg HPL.out 38).slice (by have := HD6.out.dlt; have := HD6.out.llt; have := HD6.out.mlt; simp; omega))
  generalize (w6.alloc (.cells (byteVals pg).toArray 38)) = w7 at HD7 HO7 HR7 hHeld ⊢
  have HPT : Hid (Calls Tryz.prog 78 #[regV d a z, .int .i64 (a : Int), .slice (some ⟨w6.heap.size, 0, none⟩) 1 1] w7 fun e w' => e = .returned (.int .i64 (Jn.runW s [⟨(a : Int), pg⟩]).2) ∧ DiskAt w' d l m (Jn.runW s [⟨(a : Int), pg⟩]).1 ∧ Only [d, l, m] w7 w') := Lib.hid (put_any HD7.out a a z _ 1 [pg] HR7.out (fun p hp => by rw [List.mem_singleton] at hp; rw [hp]; exact HPL.out) (by simp) (by omega))
  generalize w6.heap.size = LB at HPT ⊢
  refine wpAnyH_ready (rs := [11]) (by kernel_rfl) (by simp) ?_
  refine AllReadyH.cons rfl (fun K hK => ?_) AllReadyH.nil
  go_simp
  (go_at_call 78; refine HPT.out.mono ?_; rintro e w8 ⟨rfl, hd8, ho8⟩; have HJ8 := Lib.hid (hHeld.1.only ho8 HJD.out); have HP8 := Lib.hid (hHeld.2.block (ho8.block C hHeld.2.lt HCD.out)); have HD8 := Lib.hid hd8; have HO8 : Hid (Only [d, l, m, j] w w8) := Lib.hid (HO7.out.trans (ho8.mono (by simp))); clear hd8 ho8)
  (try go_wp2_with fail)
  refine hK.out _ _ ⟨HJ8.out, HP8.out⟩ (fun hHeld => ?_)
  clear hK K
  (try simp only [Act.put, List.setIfInBounds_toArray, List.set_cons_zero, List.set_cons_succ])
  refine take_at (i := 12) (d := some 4) (v := .int .i64 (Jn.runW s [⟨(a : Int), pg⟩]).2) rfl rfl (by kernel_rfl) (by kernel_rfl) (by kernel_rfl) (fun _ _ _ h => h) (Or.inl ⟨by kernel_rfl, ?_⟩) hHeld ?_
  · intro w hSw; have c1 := hSw.1.c1; go_simp
  (try simp only [Act.put, List.setIfInBounds_toArray, List.set_cons_zero, List.set_cons_succ])
  refine wpAnyH_done (by kernel_rfl) ?_ _
  refine NoPanic.normal ?_
  go_wp2_with fail
  go_ret
  exact ⟨rfl, HD8.out, HJ8.out, HO8.out⟩
end Go.Proofs.YtppbiohjhnoagaaGreat
