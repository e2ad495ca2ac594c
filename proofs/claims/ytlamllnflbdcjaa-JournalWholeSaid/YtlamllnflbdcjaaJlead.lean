/-
  The contract of a journal's lead: a head is written, and flushed.
-/
import Derived.Test.YtlamllnflbdcjaaJchg
namespace Go.Proofs.Ytlamllnflbdcjaa
open Go.RowKit
open Dk (zeros zeros_length)
open Hd (Head rightB pageH)
open Jn (Chg)

set_option maxRecDepth 100000 in
set_option maxHeartbeats 4000000 in
theorem lead_any {w : World} {j d l m a z : Nat} {q : Int} {o : Bool} {s : Dk.St} (hj : JAt w j d a z q o) (h : DiskAt w d l m s) (hjd : j ∉ [d, l, m]) (ha : a ≤ 900) (hd : Head) (hr : rightB hd = true) (hs0 : 0 ≤ hd.sum) (hs1 : hd.sum < 4294967296) :
    Calls Try.prog 24 #[.pointer (some ⟨j, 0, none⟩), headV hd] w fun e w' => e = .returned (.int .i64 (Jn.runW s [⟨(a : Int), pageH hd⟩]).2) ∧ DiskAt w' d l m (Jn.runW s [⟨(a : Int), pageH hd⟩]).1 ∧ JAt w' j d a z hd.seq o ∧ Only [d, l, m, j] w w' := by
  have HE := Lib.hid (fun (w : World) => encode_yes hd w hr hs0 hs1)
  have HPL := Lib.hid (Hd.pageH_length hd)
  generalize pageH hd = pg at HE HPL ⊢
  have HJ := Lib.hid (hj.below (w' := w.alloc (.cells (headVals hd).toArray 73)) ((Below.refl _ _).alloc (Nat.le_refl _) _))
  have HD := Lib.hid (h.alloc (.cells (headVals hd).toArray 73))
  have HH := Lib.hid (headAt_new w hd 73)
  have HO : Hid (Only [d, l, m, j] w (w.alloc (.cells (headVals hd).toArray 73))) := Lib.hid ((Only.refl _ _).alloc _)
  have HJD := Lib.hid hjd
  have HBJ : Hid (w.heap.size ≠ j) := Lib.hid (by have := hj.lt; omega)
  have HJL := Lib.hid hj.lt
  have HBD : Hid (d < w.heap.size ∧ l < w.heap.size ∧ m < w.heap.size) := Lib.hid ⟨h.dlt, h.llt, h.mlt⟩
  clear hj h hr hs0 hs1 hjd
  obtain ⟨hq, hlv, hct, hsm⟩ := hd
  obtain ⟨hd, hhd⟩ : ∃ hd : Head, hd = ⟨hq, hlv, hct, hsm⟩ := ⟨_, rfl⟩
  have hhv : headV hd = .agg #[.int .i64 hq, .bool hlv, .int .i64 hct, .int .u32 hsm] := by rw [hhd]; rfl
  have hhw : (headVals hd).toArray = #[.int .i64 hq, .bool hlv, .int .i64 hct, .int .u32 hsm] := by rw [hhd]; rfl
  rw [← hhd] at HE HJ HD HH HO ⊢
  rw [hhw] at HJ HD HH HO
  rw [hhv]
  clear hhv hhw hhd
  go_enter Try.func24, Try.ntmps24
  go_wp2_with (with_reducible refine wpList_load_head headT HH.out rfl (.tmp 3) rfl rfl ?_)
  generalize w.alloc (.cells _ 73) = w1 at HJ HD HH HO ⊢
  have HBO : Hid (∀ x, w.heap.size ≤ x → x ∉ [d, l, m, j]) := Lib.hid (fun x hx => by have := HBD.out; have := HJL.out; simp; omega)
  generalize w.heap.size = B at HH HBJ HBO ⊢
  refine (HE.out _).mono ?_
  rintro e w2 ⟨rfl, hB2⟩
  have HJ2 := Lib.hid (HJ.out.below hB2)
  have HD2 := Lib.hid (HD.out.below hB2)
  have HH2 := Lib.hid (HH.out.below hB2 HH.out.lt)
  have HO2 := Lib.hid (HO.out.ofBelow hB2)
  clear HJ HD HH HO hB2 HE
  go_wp2_with ((with_reducible refine wpList_store_new rfl (.tmp 5) (.tmp 10) rfl rfl ?_ ?_ HPL.out ?_); (exact rfl); (exact rfl); intro w3 hP hB3 hz3; have HJ3 := Lib.hid (HJ2.out.below hB3); have HD3 := Lib.hid (HD2.out.below hB3); have HH3 := Lib.hid (HH2.out.below hB3 HH2.out.lt); have HO3 := Lib.hid (HO2.out.ofBelow hB3); have HP3 := Lib.hid hP; have HC : Hid (w2.heap.size ∉ [d, l, m] ∧ w2.heap.size ≠ j) := Lib.hid (by have := HD2.out.dlt; have := HD2.out.llt; have := HD2.out.mlt; have := HJ2.out.lt; simp; omega); have g0 := HH3.out.c0; have j3 := HJ3.out.c3; have j4 := HJ3.out.f 3 (by omega); clear HJ2 HD2 HH2 HO2 hP hB3 hz3; generalize w2.heap.size = C at HP3 HC ⊢)
  have HJ5 := Lib.hid (HJ3.out.setSeq hd.seq)
  have HD5 := Lib.hid (HD3.out.only (L := [j]) ((Only.refl [j] w3).setCell (p := ⟨j, 3, none⟩) (by simp) (.int .i64 hd.seq)) (fun e => HJD.out (by simp at e ⊢; omega)) (fun e => HJD.out (by simp at e ⊢; omega)) (fun e => HJD.out (by simp at e ⊢; omega)))
  have HP5 := Lib.hid (HP3.out.set_other j 3 (.int .i64 hd.seq) HC.out.2)
  have HO5 : Hid (Only [d, l, m, j] w (w3.setCell ⟨j, 3, none⟩ (.int .i64 hd.seq))) := Lib.hid (HO3.out.setCell (by simp) _)
  have HCD : Hid (C ∉ [d, l, m]) := Lib.hid HC.out.1
  clear HJ3 HD3 HP3 HO3 HH3 g0 j3 j4 HC
  generalize w3.setCell ⟨j, 3, none⟩ (.int .i64 hd.seq) = w5 at HJ5 HD5 HP5 HO5 ⊢
  refine wp_region_noPanic ?_
  refine wp_region_held_drew (S := fun W => JAt W j d a z hd.seq o ∧ PageAt W C pg) (by kernel_rfl) ⟨HJ5.out.below (Below.refl _ _).drew, HP5.out.drew⟩ (fun hHeld => ?_)
  have HJ6 := Lib.hid (HJ5.out.below (Below.refl _ _).drew)
  have HP6 := Lib.hid HP5.out.drew
  have HD6 := Lib.hid HD5.out.drew
  have HO6 := Lib.hid HO5.out.drew
  clear HJ5 HP5 HD5 HO5
  generalize w5.drew = w6 at HJ6 HP6 HD6 HO6 hHeld ⊢
  refine take_at (i := 0) (d := some 19) (v := .pointer (some ⟨j, 0, none⟩)) rfl rfl (by kernel_rfl) (by kernel_rfl) (by kernel_rfl) (fun _ _ _ h => h) (Or.inl ⟨by kernel_rfl, ?_⟩) hHeld ?_
  · intro w hSw; have c1 := hSw.1.c1; go_simp
  (try simp only [Act.put, List.setIfInBounds_toArray, List.set_cons_zero, List.set_cons_succ])
  refine take_at (i := 1) (d := some 20) (v := .pointer (some ⟨j, 0, none⟩)) rfl rfl (by kernel_rfl) (by kernel_rfl) (by kernel_rfl) (fun _ _ _ h => h) (Or.inl ⟨by kernel_rfl, ?_⟩) hHeld ?_
  · intro w hSw; have c1 := hSw.1.c1; go_simp
  (try simp only [Act.put, List.setIfInBounds_toArray, List.set_cons_zero, List.set_cons_succ])
  refine take_at (i := 2) (d := some 21) (v := .pointer (some ⟨j, 0, none⟩)) rfl rfl (by kernel_rfl) (by kernel_rfl) (by kernel_rfl) (fun _ _ _ h => h) (Or.inl ⟨by kernel_rfl, ?_⟩) hHeld ?_
  · intro w hSw; have c1 := hSw.1.c1; go_simp
  (try simp only [Act.put, List.setIfInBounds_toArray, List.set_cons_zero, List.set_cons_succ])
  refine take_at (i := 3) (d := some 22) (v := regV d a z) rfl rfl (by kernel_rfl) (by kernel_rfl) (by kernel_rfl) (fun _ _ _ h => h) (yields_reg (by kernel_rfl) (.tmp 21) rfl rfl (fun _ hSw => hSw.1.reg)) hHeld ?_
  (try simp only [Act.put, List.setIfInBounds_toArray, List.set_cons_zero, List.set_cons_succ])
  refine take_at (i := 4) (d := some 23) (v := .pointer (some ⟨j, 0, none⟩)) rfl rfl (by kernel_rfl) (by kernel_rfl) (by kernel_rfl) (fun _ _ _ h => h) (Or.inl ⟨by kernel_rfl, ?_⟩) hHeld ?_
  · intro w hSw; have c1 := hSw.1.c1; go_simp
  (try simp only [Act.put, List.setIfInBounds_toArray, List.set_cons_zero, List.set_cons_succ])
  refine take_at (i := 5) (d := some 24) (v := .pointer (some ⟨j, 0, none⟩)) rfl rfl (by kernel_rfl) (by kernel_rfl) (by kernel_rfl) (fun _ _ _ h => h) (Or.inl ⟨by kernel_rfl, ?_⟩) hHeld ?_
  · intro w hSw; have c1 := hSw.1.c1; go_simp
  (try simp only [Act.put, List.setIfInBounds_toArray, List.set_cons_zero, List.set_cons_succ])
  refine take_at (i := 6) (d := some 25) (v := .pointer (some ⟨j, 0, none⟩)) rfl rfl (by kernel_rfl) (by kernel_rfl) (by kernel_rfl) (fun _ _ _ h => h) (Or.inl ⟨by kernel_rfl, ?_⟩) hHeld ?_
  · intro w hSw; have c1 := hSw.1.c1; go_simp
  (try simp only [Act.put, List.setIfInBounds_toArray, List.set_cons_zero, List.set_cons_succ])
  refine take_at (i := 7) (d := some 26) (v := .pointer (some ⟨j, 1, none⟩)) rfl rfl (by kernel_rfl) (by kernel_rfl) (by kernel_rfl) (fun _ _ _ h => h) (Or.inl ⟨by kernel_rfl, ?_⟩) hHeld ?_
  · intro w hSw; have c1 := hSw.1.c1; go_simp
  (try simp only [Act.put, List.setIfInBounds_toArray, List.set_cons_zero, List.set_cons_succ])
  refine take_at (i := 8) (d := some 27) (v := .int .i64 (a : Int)) rfl rfl (by kernel_rfl) (by kernel_rfl) (by kernel_rfl) (fun _ _ _ h => h) (Or.inl ⟨by kernel_rfl, ?_⟩) hHeld ?_
  · intro w hSw; have c1 := hSw.1.c1; go_simp
  (try simp only [Act.put, List.setIfInBounds_toArray, List.set_cons_zero, List.set_cons_succ])
  refine take_at (i := 9) (d := some 28) (v := pageV pg) rfl rfl (by kernel_rfl) (by kernel_rfl) (by kernel_rfl) (fun _ _ _ h => h) (yields_page (by kernel_rfl) (.tmp 5) rfl rfl HPL.out (fun _ hSw => hSw.2.range)) hHeld ?_
  (try simp only [Act.put, List.setIfInBounds_toArray, List.set_cons_zero, List.set_cons_succ])
  refine anyH_buildPage (i := 10) HPL.out (by kernel_rfl) rfl (by kernel_rfl) (.tmp 28) rfl rfl (some 29) rfl ⟨hHeld.1.below ((Below.refl _ _).alloc (Nat.le_refl _) _), hHeld.2.alloc _⟩ (fun hHeld => ?_)
  (try simp only [Act.put, List.setIfInBounds_toArray, List.set_cons_zero, List.set_cons_succ])
  have HD7 := Lib.hid (HD6.out.alloc (.cells (byteVals pg).toArray 31))
  have HO7 : Hid (Only [d, l, m, j] w (w6.alloc (.cells (byteVals pg).toArray 31))) := Lib.hid (HO6.out.alloc _)
  have HR7 : Hid (PgAt (w6.alloc (.cells (byteVals pg).toArray 31)) (some ⟨w6.heap.size, 0, none⟩) [d, l, m] [pg]) := Lib.hid ((rows_one w6 pg HPL.out 31).slice (by have := HD6.out.dlt; have := HD6.out.llt; have := HD6.out.mlt; simp; omega))
  generalize (w6.alloc (.cells (byteVals pg).toArray 31)) = w7 at HD7 HO7 HR7 hHeld ⊢
  have HPT : Hid (Calls Try.prog 30 #[regV d a z, .int .i64 (a : Int), .slice (some ⟨w6.heap.size, 0, none⟩) 1 1] w7 fun e w' => e = .returned (.int .i64 (Jn.runW s [⟨(a : Int), pg⟩]).2) ∧ DiskAt w' d l m (Jn.runW s [⟨(a : Int), pg⟩]).1 ∧ Only [d, l, m] w7 w') := Lib.hid (put_any HD7.out a a z _ 1 [pg] HR7.out (fun p hp => by rw [List.mem_singleton] at hp; rw [hp]; exact HPL.out) (by simp) (by omega))
  generalize w6.heap.size = LB at HPT ⊢
  refine wpAnyH_ready (rs := [11]) (by kernel_rfl) (by simp) ?_
  refine AllReadyH.cons rfl (fun K hK => ?_) AllReadyH.nil
  go_simp
  (go_at_call 30; refine HPT.out.mono ?_; rintro e w8 ⟨rfl, hd8, ho8⟩; have HJ8 := Lib.hid (hHeld.1.only ho8 HJD.out); have HP8 := Lib.hid (hHeld.2.block (ho8.block C hHeld.2.lt HCD.out)); have HD8 := Lib.hid hd8; have HO8 : Hid (Only [d, l, m, j] w w8) := Lib.hid (HO7.out.trans (ho8.mono (by simp))); clear hd8 ho8)
  (try go_wp2_with fail)
  refine hK.out _ _ ⟨HJ8.out, HP8.out⟩ (fun hHeld => ?_)
  clear hK K
  (try simp only [Act.put, List.setIfInBounds_toArray, List.set_cons_zero, List.set_cons_succ])
  refine take_at (i := 12) (d := some 4) (v := .int .i64 (Jn.runW s [⟨(a : Int), pg⟩]).2) rfl rfl (by kernel_rfl) (by kernel_rfl) (by kernel_rfl) (fun _ _ _ h => h) (Or.inl ⟨by kernel_rfl, ?_⟩) hHeld ?_
  · intro w hSw; have c1 := hSw.1.c1; go_simp
  (try simp only [Act.put, List.setIfInBounds_toArray, List.set_cons_zero, List.set_cons_succ])
  refine wpAnyH_done (by kernel_rfl) ?_ _
  refine NoPanic.normal ?_
  go_wp2_with fail
  go_ret
  exact ⟨rfl, HD8.out, HJ8.out, HO8.out⟩
end Go.Proofs.Ytlamllnflbdcjaa
