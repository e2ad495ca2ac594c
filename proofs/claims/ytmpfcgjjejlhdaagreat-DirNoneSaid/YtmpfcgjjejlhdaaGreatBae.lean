/- Texts of the proof. -/
import Derived.Test.YtmpfcgjjejlhdaaGreatBad
import Derived.BigQuiet
import Derived.Deep.QuietTactic
set_option maxRecDepth 100000
set_option maxHeartbeats 16000000
namespace Go.Proofs.YtmpfcgjjejlhdaaGreat
section
open Go.RowKit
open Dk (zeros zeros_length)
open Hd (Head rightB pageH)
open Jn (Chg)
theorem lead_any {w : World} {j d l m a z : Nat} {q : Int} {o : Bool} {s : Dk.St} (hj : JAt w j d a z q o) (h : DiskAt w d l m s) (hjd : j ∉ [d, l, m]) (ha : a ≤ 900) (hd : Head) (hr : rightB hd = true) (hs0 : 0 ≤ hd.sum) (hs1 : hd.sum < 4294967296) :
    Calls Tryz.prog 167 #[.pointer (some ⟨j, 0, none⟩), headV hd] w fun e w' => e = .returned (.int .i64 (Jn.runW s [⟨(a : Int), pageH hd⟩]).2) ∧ DiskAt w' d l m (Jn.runW s [⟨(a : Int), pageH hd⟩]).1 ∧ JAt w' j d a z hd.seq o ∧ Only [d, l, m, j] w w' := by
  have HE := Lib.hid (fun (w : World) => encode_yes hd w hr hs0 hs1)
  have HPL := Lib.hid (Hd.pageH_length hd)
  generalize pageH hd = pg at HE HPL ⊢
  have HJ := Lib.hid (hj.below (w' := w.alloc (.cells (headVals hd).toArray 207)) ((Below.refl _ _).alloc (Nat.le_refl _) _))
  have HD := Lib.hid (h.alloc (.cells (headVals hd).toArray 207))
  have HH := Lib.hid (headAt_new w hd 207)
  have HO : Hid (Only [d, l, m, j] w (w.alloc (.cells (headVals hd).toArray 207))) := Lib.hid ((Only.refl _ _).alloc _)
  have HJD := Lib.hid hjd
  have HBJ : Hid (w.heap.size ≠ j) := Lib.hid (by have := hj.lt; omega)
  have HJL := Lib.hid hj.lt
  have HBD : Hid (d < w.heap.size ∧ l < w.heap.size ∧ m < w.heap.size) := Lib.hid ⟨h.dlt, h.llt, h.mlt⟩
  clear hj h hr hs0 hs1 hjd
  obtain ⟨hq, hlv, hct, hsm⟩ := hd
  obtain ⟨hd, hhd⟩ : ∃ hd : Head, hd = ⟨hq, hlv, hct, hsm⟩ := ⟨_, rfl⟩
  have hhv : headV hd = .agg #[.int .i64 hq, .bool hlv, .int .i64 hct, .int .u32 hsm] := by rw [hhd]; rfl
  have hhw : (headVals hd).toArray = #[.int .i64 hq, .bool hlv, .int .i64 hct, .int .u32 hsm] := by rw [hhd]; rfl
  rw [← hhd] at HE HJ HD HH HO ⊢
  rw [hhw] at HJ HD HH HO
  rw [hhv]
  clear hhv hhw hhd
  go_enter Tryz.func167, Tryz.ntmps167
  go_wp2_with (with_reducible refine wpList_load_head headT HH.out rfl (.tmp 3) rfl rfl ?_)
  generalize w.alloc (.cells _ 207) = w1 at HJ HD HH HO ⊢
  have HBO : Hid (∀ x, w.heap.size ≤ x → x ∉ [d, l, m, j]) := Lib.hid (fun x hx => by have := HBD.out; have := HJL.out; simp; omega)
  generalize w.heap.size = B at HH HBJ HBO ⊢
  refine (HE.out _).mono ?_
  rintro e w2 ⟨rfl, hB2⟩
  have HJ2 := Lib.hid (HJ.out.below hB2)
  have HD2 := Lib.hid (HD.out.below hB2)
  have HH2 := Lib.hid (HH.out.below hB2 HH.out.lt)
  have HO2 := Lib.hid (HO.out.ofBelow hB2)
  clear HJ HD HH HO hB2 HE
  go_wp2_with ((with_reducible refine wpList_store_new rfl (.tmp 5) (.tmp 10) rfl rfl ?_ ?_ HPL.out ?_); (exact rfl); (exact rfl); intro w3 hP hB3 hz3; have HJ3 := Lib.hid (HJ2.out.below hB3); have HD3 := Lib.hid (HD2.out.below hB3); have HH3 := Lib.hid (HH2.out.below hB3 HH2.out.lt); have HO3 := Lib.hid (HO2.out.ofBelow hB3); have HP3 := Lib.hid hP; have HC : Hid (w2.heap.size ∉ [d, l, m] ∧ w2.heap.size ≠ j) := Lib.hid (by have := HD2.out.dlt; have := HD2.out.llt; have := HD2.out.mlt; have := HJ2.out.lt; simp; omega); have g0 := HH3.out.c0; have j3 := HJ3.out.c3; have j4 := HJ3.out.f 3 (by omega); clear HJ2 HD2 HH2 HO2 hP hB3 hz3; generalize w2.heap.size = C at HP3 HC ⊢)
  have HJ5 := Lib.hid (HJ3.out.setSeq hd.seq)
  have HD5 := Lib.hid (HD3.out.only (L := [j]) ((Only.refl [j] w3).setCell (p := ⟨j, 3, none⟩) (by simp) (.int .i64 hd.seq)) (fun e => HJD.out (by simp at e ⊢; omega)) (fun e => HJD.out (by simp at e ⊢; omega)) (fun e => HJD.out (by simp at e ⊢; omega)))
  have HP5 := Lib.hid (HP3.out.set_other j 3 (.int .i64 hd.seq) HC.out.2)
  have HO5 : Hid (Only [d, l, m, j] w (w3.setCell ⟨j, 3, none⟩ (.int .i64 hd.seq))) := Lib.hid (HO3.out.setCell (by simp) _)
  have HCD : Hid (C ∉ [d, l, m]) := Lib.hid HC.out.1
  clear HJ3 HD3 HP3 HO3 HH3 g0 j3 j4 HC
  generalize w3.setCell ⟨j, 3, none⟩ (.int .i64 hd.seq) = w5 at HJ5 HD5 HP5 HO5 ⊢
  refine wp_region_noPanic ?_
  refine wp_region_held_drew (S := fun W => JAt W j d a z hd.seq o ∧ PageAt W C pg) (by kernel_rfl) ⟨HJ5.out.below (Below.refl _ _).drew, HP5.out.drew⟩ (fun hHeld => ?_)
  have HJ6 := Lib.hid (HJ5.out.below (Below.refl _ _).drew)
  have HP6 := Lib.hid HP5.out.drew
  have HD6 := Lib.hid HD5.out.drew
  have HO6 := Lib.hid HO5.out.drew
  clear HJ5 HP5 HD5 HO5
  generalize w5.drew = w6 at HJ6 HP6 HD6 HO6 hHeld ⊢
  refine take_at (i := 0) (d := some 19) (v := .pointer (some ⟨j, 0, none⟩)) rfl rfl (by kernel_rfl) (by kernel_rfl) (by kernel_rfl) (fun _ _ _ h => h) (Or.inl ⟨by kernel_rfl, ?_⟩) hHeld ?_
  · intro w hSw; have c1 := hSw.1.c1; go_simp
  (try simp only [Act.put, puA, puB, puC])
  refine take_at (i := 1) (d := some 20) (v := .pointer (some ⟨j, 0, none⟩)) rfl rfl (by kernel_rfl) (by kernel_rfl) (by kernel_rfl) (fun _ _ _ h => h) (Or.inl ⟨by kernel_rfl, ?_⟩) hHeld ?_
  · intro w hSw; have c1 := hSw.1.c1; go_simp
  (try simp only [Act.put, puA, puB, puC])
  refine take_at (i := 2) (d := some 21) (v := .pointer (some ⟨j, 0, none⟩)) rfl rfl (by kernel_rfl) (by kernel_rfl) (by kernel_rfl) (fun _ _ _ h => h) (Or.inl ⟨by kernel_rfl, ?_⟩) hHeld ?_
  · intro w hSw; have c1 := hSw.1.c1; go_simp
  (try simp only [Act.put, puA, puB, puC])
  refine take_at (i := 3) (d := some 22) (v := regV d a z) rfl rfl (by kernel_rfl) (by kernel_rfl) (by kernel_rfl) (fun _ _ _ h => h) (yields_reg (by kernel_rfl) (.tmp 21) rfl rfl (fun _ hSw => hSw.1.reg)) hHeld ?_
  (try simp only [Act.put, puA, puB, puC])
  refine take_at (i := 4) (d := some 23) (v := .pointer (some ⟨j, 0, none⟩)) rfl rfl (by kernel_rfl) (by kernel_rfl) (by kernel_rfl) (fun _ _ _ h => h) (Or.inl ⟨by kernel_rfl, ?_⟩) hHeld ?_
  · intro w hSw; have c1 := hSw.1.c1; go_simp
  (try simp only [Act.put, puA, puB, puC])
  refine take_at (i := 5) (d := some 24) (v := .pointer (some ⟨j, 0, none⟩)) rfl rfl (by kernel_rfl) (by kernel_rfl) (by kernel_rfl) (fun _ _ _ h => h) (Or.inl ⟨by kernel_rfl, ?_⟩) hHeld ?_
  · intro w hSw; have c1 := hSw.1.c1; go_simp
  (try simp only [Act.put, puA, puB, puC])
  refine take_at (i := 6) (d := some 25) (v := .pointer (some ⟨j, 0, none⟩)) rfl rfl (by kernel_rfl) (by kernel_rfl) (by kernel_rfl) (fun _ _ _ h => h) (Or.inl ⟨by kernel_rfl, ?_⟩) hHeld ?_
  · intro w hSw; have c1 := hSw.1.c1; go_simp
  (try simp only [Act.put, puA, puB, puC])
  refine take_at (i := 7) (d := some 26) (v := .pointer (some ⟨j, 1, none⟩)) rfl rfl (by kernel_rfl) (by kernel_rfl) (by kernel_rfl) (fun _ _ _ h => h) (Or.inl ⟨by kernel_rfl, ?_⟩) hHeld ?_
  · intro w hSw; have c1 := hSw.1.c1; go_simp
  (try simp only [Act.put, puA, puB, puC])
  refine take_at (i := 8) (d := some 27) (v := .int .i64 (a : Int)) rfl rfl (by kernel_rfl) (by kernel_rfl) (by kernel_rfl) (fun _ _ _ h => h) (Or.inl ⟨by kernel_rfl, ?_⟩) hHeld ?_
  · intro w hSw; have c1 := hSw.1.c1; go_simp
  (try simp only [Act.put, puA, puB, puC])
  refine take_at (i := 9) (d := some 28) (v := pageV pg) rfl rfl (by kernel_rfl) (by kernel_rfl) (by kernel_rfl) (fun _ _ _ h => h) (yields_page (by kernel_rfl) (.tmp 5) rfl rfl HPL.out (fun _ hSw => hSw.2.range)) hHeld ?_
  (try simp only [Act.put, puA, puB, puC])
  refine anyH_buildPage (i := 10) HPL.out (by kernel_rfl) rfl (by kernel_rfl) (.tmp 28) rfl rfl (some 29) rfl ⟨hHeld.1.below ((Below.refl _ _).alloc (Nat.le_refl _) _), hHeld.2.alloc _⟩ (fun hHeld => ?_)
  (try simp only [Act.put, puA, puB, puC])
  have HD7 := Lib.hid (HD6.out.alloc (.cells (byteVals pg).toArray 97))
  have HO7 : Hid (Only [d, l, m, j] w (w6.alloc (.cells (byteVals pg).toArray 97))) := Lib.hid (HO6.out.alloc _)
  have HR7 : Hid (PgAt (w6.alloc (.cells (byteVals pg).toArray 97)) (some ⟨w6.heap.size, 0, none⟩) [d, l, m] [pg]) := Lib.hid ((rows_one w6 pg HPL.out 97).slice (by have := HD6.out.dlt; have := HD6.out.llt; have := HD6.out.mlt; simp; omega))
  generalize (w6.alloc (.cells (byteVals pg).toArray 97)) = w7 at HD7 HO7 HR7 hHeld ⊢
  have HPT : Hid (Calls Tryz.prog 183 #[regV d a z, .int .i64 (a : Int), .slice (some ⟨w6.heap.size, 0, none⟩) 1 1] w7 fun e w' => e = .returned (.int .i64 (Jn.runW s [⟨(a : Int), pg⟩]).2) ∧ DiskAt w' d l m (Jn.runW s [⟨(a : Int), pg⟩]).1 ∧ Only [d, l, m] w7 w') := Lib.hid (put_any HD7.out a a z _ 1 [pg] HR7.out (fun p hp => by rw [List.mem_singleton] at hp; rw [hp]; exact HPL.out) (by simp) (by omega))
  generalize w6.heap.size = LB at HPT ⊢
  refine wpAnyH_ready (rs := [11]) (by kernel_rfl) (by simp) ?_
  refine AllReadyH.cons rfl (fun K hK => ?_) AllReadyH.nil
  go_simp
  (go_at_call 183; refine HPT.out.mono ?_; rintro e w8 ⟨rfl, hd8, ho8⟩; have HJ8 := Lib.hid (hHeld.1.only ho8 HJD.out); have HP8 := Lib.hid (hHeld.2.block (ho8.block C hHeld.2.lt HCD.out)); have HD8 := Lib.hid hd8; have HO8 : Hid (Only [d, l, m, j] w w8) := Lib.hid (HO7.out.trans (ho8.mono (by simp))); clear hd8 ho8)
  (try go_wp2_with fail)
  refine hK.out _ _ ⟨HJ8.out, HP8.out⟩ (fun hHeld => ?_)
  clear hK K
  (try simp only [Act.put, puA, puB, puC])
  refine take_at (i := 12) (d := some 4) (v := .int .i64 (Jn.runW s [⟨(a : Int), pg⟩]).2) rfl rfl (by kernel_rfl) (by kernel_rfl) (by kernel_rfl) (fun _ _ _ h => h) (Or.inl ⟨by kernel_rfl, ?_⟩) hHeld ?_
  · intro w hSw; have c1 := hSw.1.c1; go_simp
  (try simp only [Act.put, puA, puB, puC])
  refine wpAnyH_done (by kernel_rfl) ?_ _
  refine NoPanic.normal ?_
  go_wp2_with fail
  go_ret
  exact ⟨rfl, HD8.out, HJ8.out, HO8.out⟩
end

section
open Go.RowKit
open Dk (zeros zeros_length)
open Hd (Head rightB pageH)
open Jn (Chg quietH liveH)
structure BegI (w : World) (j d l m : Nat) (s : Dk.St) (a z : Nat) (q : Int) (o : Bool) (W : World) : Prop where
  disk : DiskAt W d l m s
  jr : JAt W j d a z q o
  below : Below w.heap.size w W
theorem BegI.call {w : World} {j d l m : Nat} {s : Dk.St} {a z : Nat} {q : Int} {o : Bool} {W W' : World} (h : BegI w j d l m s a z q o W) (hb : Below W.heap.size W W') : BegI w j d l m s a z q o W' :=
  ⟨h.disk.below hb, h.jr.below hb, h.below.trans (hb.mono h.below.size)⟩
def BgS (w : World) (j d l m : Nat) (s : Dk.St) (a z : Nat) (q : Int) (o : Bool) (p : List UInt8) (st : Option (Nat × Bool)) (W : World) : Prop :=
  BegI w j d l m s a z q o W ∧ match st with
    | none => True
    | some (C, b) => w.heap.size ≤ C ∧ PageAt W C (if b = true then p else zeros)
theorem BegI.olds {w : World} {j d l m : Nat} {s : Dk.St} {a z : Nat} {q : Int} {o : Bool} {W : World} (h : BegI w j d l m s a z q o W) (hj : j < w.heap.size) (hd : d < w.heap.size ∧ l < w.heap.size ∧ m < w.heap.size) (C : Nat) (hC : w.heap.size ≤ C) (vs : List Value) : BegI w j d l m s a z q o (W.setCells C 0 vs) := by
  have ho : Only [C] W (W.setCells C 0 vs) := Only.setCells C (by simp) _ _ _ (Only.refl _ _)
  exact ⟨h.disk.only ho (by simp; omega) (by simp; omega) (by simp; omega), h.jr.only ho (by simp; omega), below_setCells _ hC _ _ _ h.below⟩
theorem BgS.call {w : World} {j d l m : Nat} {s : Dk.St} {a z : Nat} {q : Int} {o : Bool} {p : List UInt8} {st : Option (Nat × Bool)} {W W' : World} (k : BgS w j d l m s a z q o p st W) (hb : Below W.heap.size W W') : BgS w j d l m s a z q o p st W' := by
  refine ⟨k.1.call hb, ?_⟩
  match st, k with
  | none, _ => trivial
  | some (C, b), k => exact ⟨k.2.1, k.2.2.below hb k.2.2.lt⟩
theorem BgS.alloc {w : World} {j d l m : Nat} {s : Dk.St} {a z : Nat} {q : Int} {o : Bool} {p : List UInt8} {W : World} (k : BegI w j d l m s a z q o W) : BgS w j d l m s a z q o p (some (W.heap.size, false)) (W.alloc (.cells zeroCells 97)) :=
  ⟨k.call ((Below.refl _ _).alloc (Nat.le_refl _) _), k.below.size, pageAt_zeros W 97⟩
theorem BgS.put {w : World} {j d l m : Nat} {s : Dk.St} {a z : Nat} {q : Int} {o : Bool} {p : List UInt8} {C : Nat} {b : Bool} {W : World} (k : BgS w j d l m s a z q o p (some (C, b)) W) (hp : p.length = 64) (hj : j < w.heap.size) (hd : d < w.heap.size ∧ l < w.heap.size ∧ m < w.heap.size) : BgS w j d l m s a z q o p (some (C, true)) (W.setCells C 0 (byteVals p)) := by
  obtain ⟨k1, k2, k3⟩ := k
  exact ⟨k1.olds hj hd C k2 _, k2, k3.put p hp⟩
theorem gives_store_page {o : Oper} {a : Act} {w : World} {b : Nat} {q p : List UInt8} {R : Value → World → Prop} (k : PageAt w b q) (hp : p.length = 64) (x y : Operand) (ho : o.op = .store 97 x y) (hx : a.eval x = .pointer (some ⟨b, 0, none⟩)) (hy : a.eval y = pageV p)
    (hR : R undef (w.setCells b 0 (byteVals p))) : Gives Tryz.prog (execOp a.eval o) w R := by
  have hs := run_storeVar_mid (P := Tryz.prog) w b 0 97 (byteVals p).toArray (by rw [List.size_toArray, byteVals_length, hp]; exact k.free) (by rw [page_info, List.size_toArray, byteVals_length, hp]) (all_oneCell_toArray (byteVals_one p))
  rw [pageV_def] at hs
  have hrun : (execOp a.eval o).run Tryz.prog w = .ok .skip (w.setCells b 0 (byteVals p)) ∨ (execOp a.eval o).run Tryz.prog w = .ok (.value undef) (w.setCells b 0 (byteVals p)) := by
    unfold execOp
    simp only [ho, hx, hy, Instr.storeAt, Instr.sureAddr, Sem.run_bind, Sem.run_pure, Result.andThen_ok, hs]
    simp
  unfold Gives
  rcases hrun with h | h <;> (rw [h]; exact hR)
theorem runs_one (s : Dk.St) (l : List Chg) : Jn.runs s [l] = Jn.runW s l := by
  unfold Jn.runs
  split
  · rename_i h
    unfold Jn.runs
    rw [← h]
  · rfl
theorem runs_ok {s : Dk.St} {l : List Chg} {r : List (List Chg)} (h : (Jn.runW s l).2 = 0) : Jn.runs s (l :: r) = Jn.runs (Jn.runW s l).1 r := by rw [Jn.runs, if_pos h]
theorem runs_bad {s : Dk.St} {l : List Chg} {r : List (List Chg)} (h : (Jn.runW s l).2 ≠ 0) : Jn.runs s (l :: r) = Jn.runW s l := by rw [Jn.runs, if_neg h]
theorem begin_quiet {w : World} {j d l m a z : Nat} {q : Int} {o : Bool} {s : Dk.St} (hj : JAt w j d a z q o) (h : DiskAt w d l m s) (hjd : j ∉ [d, l, m]) (ha : a ≤ 900) (hup : s.down = false) (hal : a < s.last.length) (hq : Jn.QuietP (Dk.readP s (a : Int))) (hn : Hd.nextN [Dk.readP s (a : Int)] < 4294967296) :
    Calls Tryz.prog 144 #[.pointer (some ⟨j, 0, none⟩)] w fun e w' => e = .returned (.tuple #[.int .i64 0, .int .i64 (Jn.runs s [[⟨(a : Int), pageH (quietH (Hd.nextN [Dk.readP s (a : Int)]))⟩]]).2]) ∧ DiskAt w' d l m (Jn.runs s [[⟨(a : Int), pageH (quietH (Hd.nextN [Dk.readP s (a : Int)]))⟩]]).1 ∧ JAt w' j d a z (Hd.nextN [Dk.readP s (a : Int)]) o ∧ Only [d, l, m, j] w w' := by
  rw [runs_one]
  have HI : Hid (BegI w j d l m s a z q o w) := Lib.hid ⟨h, hj, Below.refl _ _⟩
  have HJD := Lib.hid hjd
  have HJL := Lib.hid hj.lt
  have HDL : Hid (d < w.heap.size ∧ l < w.heap.size ∧ m < w.heap.size) := Lib.hid ⟨h.dlt, h.llt, h.mlt⟩
  have HPL := Lib.hid (Dk.readP_len h.ok (a : Int))
  have HRD : Hid (∀ W, BegI w j d l m s a z q o W → Calls Tryz.prog 100 #[.pointer (some ⟨d, 0, none⟩), .int .i64 (a : Int)] W fun e w' => e = .returned (.tuple #[pageV (Dk.readP s (a : Int)), .int .i64 0]) ∧ Below W.heap.size W w') := Lib.hid (fun W hW => by
    have := read_any hW.disk (a : Int)
    rw [Dk.reach_mk hup (Dk.has_mk hal)] at this
    exact this)
  clear h hj hjd hup hal
  generalize Dk.readP s (a : Int) = p at HPL HRD hq hn ⊢
  have HN0 := Lib.hid (Hd.nextN_nonneg [p])
  have HDC := Lib.hid (fun (w : World) => decode_any p w HPL.out)
  have HNX : Hid (∀ W A, PageRow W A 1 [p] → Calls Tryz.prog 168 #[.slice A 1 1] W fun e w' => e = .returned (.int .i64 (Hd.nextN [p])) ∧ Below W.heap.size W w') := Lib.hid (fun W A hr => next_any A 1 1 [p] W hr)
  have HQ := Lib.hid hq
  clear hq
  generalize hnn : Hd.nextN [p] = n at HN0 HNX hn ⊢
  clear hnn
  go_enter Tryz.func144, Tryz.ntmps144
  go_wp2_with fail
  refine wp_region_lin (BgS w j d l m s a z q o p) (fun i => i == 14 || i == 15) (fun i => [.pointer (some ⟨j, 0, none⟩), .pointer (some ⟨j, 0, none⟩), .pointer (some ⟨j, 0, none⟩), .pointer (some ⟨j, 0, none⟩), .pointer (some ⟨d, 0, none⟩), .pointer (some ⟨j, 0, none⟩), .pointer (some ⟨j, 0, none⟩), .pointer (some ⟨j, 0, none⟩), .pointer (some ⟨j, 1, none⟩), .int .i64 (a : Int), .tuple #[pageV p, .int .i64 0], .tuple #[pageV p, .int .i64 0], pageV p, .int .i64 0, undef, undef, .int .i64 0].getD i undef) (none) (by kernel_rfl) (by kernel_rfl) (⟨HI.out.call (Below.refl _ _).drew, trivial⟩) ?_
  refine lin_step (i := 0) (d := some 11) (v := .pointer (some ⟨j, 0, none⟩)) rfl rfl (by kernel_rfl) (by kernel_rfl) rfl rfl (ord_value (by kernel_rfl) ?_) ?_
  · intro _ W hS; have c0 := hS.1.jr.c0; have c1 := hS.1.jr.c1; go_simp
  (try simp only [Act.put, puA, puB, puC])
  refine lin_step (i := 1) (d := some 12) (v := .pointer (some ⟨j, 0, none⟩)) rfl rfl (by kernel_rfl) (by kernel_rfl) rfl rfl (ord_value (by kernel_rfl) ?_) ?_
  · intro _ W hS; have c0 := hS.1.jr.c0; have c1 := hS.1.jr.c1; go_simp
  (try simp only [Act.put, puA, puB, puC])
  refine lin_step (i := 2) (d := some 13) (v := .pointer (some ⟨j, 0, none⟩)) rfl rfl (by kernel_rfl) (by kernel_rfl) rfl rfl (ord_value (by kernel_rfl) ?_) ?_
  · intro _ W hS; have c0 := hS.1.jr.c0; have c1 := hS.1.jr.c1; go_simp
  (try simp only [Act.put, puA, puB, puC])
  refine lin_step (i := 3) (d := some 14) (v := .pointer (some ⟨j, 0, none⟩)) rfl rfl (by kernel_rfl) (by kernel_rfl) rfl rfl (ord_value (by kernel_rfl) ?_) ?_
  · intro _ W hS; have c0 := hS.1.jr.c0; have c1 := hS.1.jr.c1; go_simp
  (try simp only [Act.put, puA, puB, puC])
  refine lin_step (i := 4) (d := some 15) (v := .pointer (some ⟨d, 0, none⟩)) rfl rfl (by kernel_rfl) (by kernel_rfl) rfl rfl (ord_value (by kernel_rfl) ?_) ?_
  · intro _ W hS; have c0 := hS.1.jr.c0; have c1 := hS.1.jr.c1; go_simp
  (try simp only [Act.put, puA, puB, puC])
  refine lin_step (i := 5) (d := some 16) (v := .pointer (some ⟨j, 0, none⟩)) rfl rfl (by kernel_rfl) (by kernel_rfl) rfl rfl (ord_value (by kernel_rfl) ?_) ?_
  · intro _ W hS; have c0 := hS.1.jr.c0; have c1 := hS.1.jr.c1; go_simp
  (try simp only [Act.put, puA, puB, puC])
  refine lin_step (i := 6) (d := some 17) (v := .pointer (some ⟨j, 0, none⟩)) rfl rfl (by kernel_rfl) (by kernel_rfl) rfl rfl (ord_value (by kernel_rfl) ?_) ?_
  · intro _ W hS; have c0 := hS.1.jr.c0; have c1 := hS.1.jr.c1; go_simp
  (try simp only [Act.put, puA, puB, puC])
  refine lin_step (i := 7) (d := some 18) (v := .pointer (some ⟨j, 0, none⟩)) rfl rfl (by kernel_rfl) (by kernel_rfl) rfl rfl (ord_value (by kernel_rfl) ?_) ?_
  · intro _ W hS; have c0 := hS.1.jr.c0; have c1 := hS.1.jr.c1; go_simp
  (try simp only [Act.put, puA, puB, puC])
  refine lin_step (i := 8) (d := some 19) (v := .pointer (some ⟨j, 1, none⟩)) rfl rfl (by kernel_rfl) (by kernel_rfl) rfl rfl (ord_value (by kernel_rfl) ?_) ?_
  · intro _ W hS; have c0 := hS.1.jr.c0; have c1 := hS.1.jr.c1; go_simp
  (try simp only [Act.put, puA, puB, puC])
  refine lin_step (i := 9) (d := some 20) (v := .int .i64 (a : Int)) rfl rfl (by kernel_rfl) (by kernel_rfl) rfl rfl (ord_value (by kernel_rfl) ?_) ?_
  · intro _ W hS; have c0 := hS.1.jr.c0; have c1 := hS.1.jr.c1; go_simp
  (try simp only [Act.put, puA, puB, puC])
  refine lin_step (i := 10) (d := some 21) (v := .tuple #[pageV p, .int .i64 0]) rfl rfl (by kernel_rfl) (by kernel_rfl) rfl rfl (ord_call (f := 100) (args := #[.pointer (some ⟨d, 0, none⟩), .int .i64 (a : Int)]) (by kernel_rfl) ?_ (fun _ _ hS => (HRD.out _ hS.1).mono fun _ _ ⟨he, hb⟩ => ⟨he, BgS.call hS hb⟩)) ?_
  · intro _; go_simp
  (try simp only [Act.put, puA, puB, puC])
  refine lin_step (i := 11) (d := some 10) (v := .tuple #[pageV p, .int .i64 0]) rfl rfl (by kernel_rfl) (by kernel_rfl) rfl rfl (ord_value (by kernel_rfl) ?_) ?_
  · intro _ W hS; have c0 := hS.1.jr.c0; have c1 := hS.1.jr.c1; go_simp
  (try simp only [Act.put, puA, puB, puC])
  refine lin_step (i := 12) (d := some 22) (v := pageV p) rfl rfl (by kernel_rfl) (by kernel_rfl) rfl rfl (ord_value (by kernel_rfl) ?_) ?_
  · intro _ W hS; have c0 := hS.1.jr.c0; have c1 := hS.1.jr.c1; go_simp
  (try simp only [Act.put, puA, puB, puC])
  refine lin_step (i := 13) (d := some 23) (v := .int .i64 0) rfl rfl (by kernel_rfl) (by kernel_rfl) rfl rfl (ord_value (by kernel_rfl) ?_) ?_
  · intro _ W hS; have c0 := hS.1.jr.c0; have c1 := hS.1.jr.c1; go_simp
  (try simp only [Act.put, puA, puB, puC])
  refine lin_turn (i := 14) (d := some 4) (fun u s => ∃ g, w.heap.size ≤ g ∧ u = .pointer (some ⟨g, 0, none⟩) ∧ s = some (g, false)) rfl rfl (by kernel_rfl) (by kernel_rfl) rfl (by kernel_rfl) (⟨_, _, w.heap.size, Nat.le_refl _, rfl, rfl⟩) (by kernel_rfl) (fun W hS => gives_to (v := .pointer (some ⟨W.heap.size, 0, none⟩)) (w' := W.alloc (.cells zeroCells 97)) (by rw [zeroCells_def]; go_simp) ⟨some (W.heap.size, false), ⟨W.heap.size, hS.1.below.size, rfl, rfl⟩, BgS.alloc hS.1⟩) ?_
  rintro _ _ ⟨C, hC, rfl, rfl⟩
  (try simp only [Act.put, puA, puB, puC])
  refine lin_turn (i := 15) (d := none) (fun u s => u = undef ∧ s = some (C, true)) rfl rfl (by kernel_rfl) (by kernel_rfl) rfl (by kernel_rfl) (⟨_, _, rfl, rfl⟩) (by kernel_rfl) (fun W hS => gives_store_page hS.2.2 HPL.out (.tmp 4) (.tmp 22) rfl rfl rfl ⟨some (C, true), ⟨rfl, rfl⟩, BgS.put hS HPL.out HJL.out HDL.out⟩) ?_
  rintro _ _ ⟨rfl, rfl⟩
  (try simp only [Act.put])
  refine lin_step (i := 16) (d := some 5) (v := .int .i64 0) rfl rfl (by kernel_rfl) (by kernel_rfl) rfl rfl (ord_value (by kernel_rfl) ?_) ?_
  · intro _ W hS; have c0 := hS.1.jr.c0; have c1 := hS.1.jr.c1; go_simp
  (try simp only [Act.put, puA, puB, puC])
  refine lin_done (by kernel_rfl) ?_
  intro w3 hS3
  have HI3 := Lib.hid hS3.1
  have HP3 : Hid (PageAt w3 C p) := Lib.hid hS3.2.2
  have HC := Lib.hid hC
  clear hS3 hC HI HRD
  have HLD : Hid (∀ W, BegI w j d l m s a z q o W → Calls Tryz.prog 167 #[.pointer (some ⟨j, 0, none⟩), .agg #[.int .i64 n, .bool false, .int .i64 0, .int .u32 0]] W fun e w' => e = .returned (.int .i64 (Jn.runW s [⟨(a : Int), pageH (quietH n)⟩]).2) ∧ DiskAt w' d l m (Jn.runW s [⟨(a : Int), pageH (quietH n)⟩]).1 ∧ JAt w' j d a z n o ∧ Only [d, l, m, j] W w') := Lib.hid (fun W hW => lead_any hW.jr hW.disk HJD.out ha (quietH n) (Jn.quietH_right HN0.out hn) (Int.le_refl 0) (show (0 : Int) < 4294967296 by omega))
  obtain ⟨hh, wb, hdec, hwb⟩ : ∃ (hh : Head) (wb : Bool), (∀ W, Calls Tryz.prog 166 #[pageV p] W fun e w' => e = .returned (.tuple #[headV hh, .bool wb]) ∧ Below W.heap.size W w') ∧ (wb = false ∨ (wb = true ∧ hh.live = false)) := by
    refine ⟨Hd.decH p, Hd.wholeB p, HDC.out, ?_⟩
    cases hw : Hd.wholeB p with
    | false => exact Or.inl rfl
    | true =>
      right
      refine ⟨rfl, ?_⟩
      unfold Hd.decH
      rw [if_pos hw]
      cases hl : (Hd.readH p).live with
      | false => rfl
      | true => exact absurd ⟨hw, hl⟩ HQ.out
  have HDE := Lib.hid hdec
  clear hdec HDC HQ
  rcases hwb with rfl | ⟨rfl, hlv⟩
  · go_wp2_with (with_reducible refine wpList_load_page HP3.out rfl (.tmp 4) rfl rfl ?_)
    refine (HDE.out _).mono ?_
    rintro e w4 ⟨rfl, hB4⟩
    have HI4 := Lib.hid (HI3.out.call hB4)
    have HP4 := Lib.hid (HP3.out.below hB4 HP3.out.lt)
    clear HI3 HP3 hB4
    go_wp2_with (first
      | ((with_reducible refine wpList_store_newhead headT (h := hh) rfl (.tmp 6) (.tmp 30) rfl rfl ?_ ?_ ?_); (exact rfl); (exact rfl); intro w5 hH hB5 hz5; have HI5 := Lib.hid (HI4.out.call hB5); have HP5 := Lib.hid (HP4.out.below hB5 HP4.out.lt); have g1 := hH.c1; clear HI4 HP4 hH hB5 hz5; generalize w4.heap.size = D at g1 ⊢)
      | (with_reducible refine wpList_load_page HP5.out rfl (.tmp 4) rfl rfl ?_)
      | ((with_reducible refine wpList_buildPage HPL.out rfl (.tmp 40) rfl ?_ ?_); (exact rfl)))
    have HI6 := Lib.hid (HI5.out.call (W' := w5.alloc (.cells (byteVals p).toArray 97)) ((Below.refl _ _).alloc (Nat.le_refl _) _))
    have HR6 := Lib.hid (((rows_one w5 p HPL.out 97).slice (L := []) (by simp)).row (by simp) (rows_one w5 p HPL.out 97).size)
    clear HI5 HP5 g1
    generalize w5.alloc (.cells (byteVals p).toArray 97) = w6 at HI6 HR6 ⊢
    refine (HNX.out _ _ HR6.out).mono ?_
    rintro e w7 ⟨rfl, hB7⟩
    have HI7 := Lib.hid (HI6.out.call hB7)
    clear HI6 HR6 hB7
    go_wp2_with fail
    refine (HLD.out _ HI7.out).mono ?_
    rintro e w8 ⟨rfl, hd8, hj8, ho8⟩
    have HO8 : Hid (Only [d, l, m, j] w w8) := Lib.hid ((Only.below (l := []) (HI7.out.below.mono (Nat.le_refl _))).mono (by simp) |>.trans ho8)
    have HD8 := Lib.hid hd8
    have HJ8 := Lib.hid hj8
    clear HI7 hd8 hj8 ho8
    go_wp2_with fail
    go_ret2
    exact ⟨rfl, HD8.out, HJ8.out, HO8.out⟩
  · go_wp2_with (with_reducible refine wpList_load_page HP3.out rfl (.tmp 4) rfl rfl ?_)
    refine (HDE.out _).mono ?_
    rintro e w4 ⟨rfl, hB4⟩
    have HI4 := Lib.hid (HI3.out.call hB4)
    have HP4 := Lib.hid (HP3.out.below hB4 HP3.out.lt)
    clear HI3 HP3 hB4
    go_wp2_with (first
      | ((with_reducible refine wpList_store_newhead headT (h := hh) rfl (.tmp 6) (.tmp 30) rfl rfl ?_ ?_ ?_); (exact rfl); (exact rfl); intro w5 hH hB5 hz5; have HI5 := Lib.hid (HI4.out.call hB5); have HP5 := Lib.hid (HP4.out.below hB5 HP4.out.lt); have g1 := hH.c1; rw [hlv] at g1; clear HI4 HP4 hH hB5 hz5; generalize w4.heap.size = D at g1 ⊢)
      | (with_reducible refine wpList_load_page HP5.out rfl (.tmp 4) rfl rfl ?_)
      | ((with_reducible refine wpList_buildPage HPL.out rfl (.tmp 40) rfl ?_ ?_); (exact rfl)))
    have HI6 := Lib.hid (HI5.out.call (W' := w5.alloc (.cells (byteVals p).toArray 97)) ((Below.refl _ _).alloc (Nat.le_refl _) _))
    have HR6 := Lib.hid (((rows_one w5 p HPL.out 97).slice (L := []) (by simp)).row (by simp) (rows_one w5 p HPL.out 97).size)
    clear HI5 HP5 g1
    generalize w5.alloc (.cells (byteVals p).toArray 97) = w6 at HI6 HR6 ⊢
    refine (HNX.out _ _ HR6.out).mono ?_
    rintro e w7 ⟨rfl, hB7⟩
    have HI7 := Lib.hid (HI6.out.call hB7)
    clear HI6 HR6 hB7
    go_wp2_with fail
    refine (HLD.out _ HI7.out).mono ?_
    rintro e w8 ⟨rfl, hd8, hj8, ho8⟩
    have HO8 : Hid (Only [d, l, m, j] w w8) := Lib.hid ((Only.below (l := []) (HI7.out.below.mono (Nat.le_refl _))).mono (by simp) |>.trans ho8)
    have HD8 := Lib.hid hd8
    have HJ8 := Lib.hid hj8
    clear HI7 hd8 hj8 ho8
    go_wp2_with fail
    go_ret2
    exact ⟨rfl, HD8.out, HJ8.out, HO8.out⟩
end

section
open Go.RowKit
open Dk (zeros zeros_length)
open Hd (Head rightB pageH)
open Jn (Chg quietH liveH)
end

section
open Go.RowKit
open Dk (zeros zeros_length)
open Hd (Head rightB pageH)
open Jn (Chg quietH liveH)
theorem Only.drop {L L' : List Nat} {w w1 w2 : World} (h1 : Only L w w1) (h2 : Only L' w1 w2) (hL : ∀ x ∈ L', x ∈ L ∨ w.heap.size ≤ x) : Only L w w2 :=
  ⟨h2.os.trans h1.os, h2.tape.trans h1.tape, h2.output.trans h1.output, Nat.le_trans h1.size h2.size, fun k hk hn => (h2.block k (Nat.lt_of_lt_of_le hk h1.size) (fun e => by
    rcases hL k e with g | g
    · exact hn g
    · omega)).trans (h1.block k hk hn)⟩
theorem jAt_new (w : World) (d a z : Nat) (t : TypeId) : JAt (w.alloc (.cells (jVals d a z 0 false).toArray t)) w.heap.size d a z 0 false := ⟨rowAt_new w _ t⟩
def Opened (w : World) (d l m a z : Nat) (R : Dk.St × Int) (P : Int → Int → Prop) (e : Ending) (w' : World) : Prop :=
  DiskAt w' d l m R.1 ∧ Only [d, l, m] w w' ∧
  ((R.2 = 0 ∧ ∃ j cnt q, e = .returned (.tuple #[.pointer (some ⟨j, 0, none⟩), .int .i64 cnt, .int .i64 0]) ∧ JAt w' j d a z q false ∧ P cnt q ∧ w.heap.size ≤ j) ∨
   (R.2 ≠ 0 ∧ e = .returned (.tuple #[.pointer none, .int .i64 0, .int .i64 R.2])))
theorem open_with {w : World} {d l m a z r : Nat} {s : Dk.St} (h : DiskAt w d l m s) (ha : a ≤ 900) (hz : z ≤ 900) (hroom : RoomIs z r) (hr : 1 ≤ r) (hup : s.down = false) (hreg : a + z ≤ s.last.length) (R : Dk.St × Int) (P : Int → Int → Prop)
    (hb : ∀ W j, JAt W j d a z 0 false → DiskAt W d l m s → j ∉ [d, l, m] → Calls Tryz.prog 144 #[.pointer (some ⟨j, 0, none⟩)] W fun e w' => ∃ (cnt q : Int), e = .returned (.tuple #[.int .i64 cnt, .int .i64 R.2]) ∧ DiskAt w' d l m R.1 ∧ JAt w' j d a z q false ∧ P cnt q ∧ Only [d, l, m, j] W w') :
    Calls Tryz.prog 102 #[.pointer (some ⟨d, 0, none⟩), .int .i64 (a : Int), .int .i64 (z : Int)] w (Opened w d l m a z R P) := by
  have HDN := Lib.hid (down_any h)
  rw [hup] at HDN
  have HRM : Hid (∀ w, Calls Tryz.prog 143 #[.int .i64 (z : Int)] w fun e w' => e = .returned (.int .i64 (r : Int)) ∧ w = w') := Lib.hid hroom
  have HPG := Lib.hid (pages_any h)
  have HBG := Lib.hid (hb _ _ (jAt_new w d a z 184) (h.alloc _) (by have := h.dlt; have := h.llt; have := h.mlt; simp; omega))
  have HLT : Hid (d < w.heap.size ∧ l < w.heap.size ∧ m < w.heap.size) := Lib.hid ⟨h.dlt, h.llt, h.mlt⟩
  have hsm := h.ok.small
  clear h hb hroom hup
  generalize s.last.length = n at HPG hreg hsm
  have hr1 : ((r : Int) == 0) = false := by rw [beq_eq_false_iff_ne]; omega
  have hr2 : ¬ ((a : Int) < 0) := by omega
  have hr3 : ¬ ((n : Int) - (z : Int) < (a : Int)) := by omega
  have HO1 : Hid (Only [d, l, m] w (w.alloc (.cells (jVals d a z 0 false).toArray 184))) := Lib.hid ((Only.refl _ _).alloc _)
  unfold jVals at HBG HO1
  go_enter Tryz.func102, Tryz.ntmps102
  go_wp2_with fail
  refine HDN.out.mono ?_
  rintro e w' ⟨rfl, rfl⟩
  go_wp2_with fail
  refine (HRM.out _).mono ?_
  rintro e w' ⟨rfl, rfl⟩
  go_wp2_with fail
  refine HPG.out.mono ?_
  rintro e w' ⟨rfl, rfl⟩
  clear HDN HRM HPG
  go_wp2_with fail
  refine HBG.out.mono ?_
  rintro e w2 ⟨cnt, q, rfl, hd2, hj2, hP2, ho2⟩
  have HD2 := Lib.hid hd2
  have HJ2 := Lib.hid hj2
  have HP2 := Lib.hid hP2
  have HO2 : Hid (Only [d, l, m] w w2) := Lib.hid (HO1.out.drop ho2 (by intro x hx; simp at hx ⊢; omega))
  clear hd2 hj2 hP2 ho2 HBG HO1 hr1 hr2 hr3
  by_cases hE : R.2 = 0
  · have HE := Lib.hid hE
    rw [hE]
    clear hE
    go_wp2_with fail
    go_ret3
    exact ⟨HD2.out, HO2.out, Or.inl ⟨HE.out, _, _, _, rfl, HJ2.out, HP2.out, Nat.le_refl _⟩⟩
  · have HE := Lib.hid hE
    have hne2 : (R.2 == 0) = false := by simpa using hE
    have hne3 : (R.2 != 0) = true := by simpa using hE
    clear hE
    go_wp2_with fail
    go_ret3
    exact ⟨HD2.out, HO2.out, Or.inr ⟨HE.out, rfl⟩⟩
end

section
open Go.RowKit
open Dk (zeros zeros_length)
open Hd (Head rightB pageH)
open Jn (Chg quietH liveH)
structure CmI (w : World) (j d l m a z : Nat) (o : Bool) (A : Option Addr) (cs : List Chg) (lb : Nat) (q : Int) (s : Dk.St) (W : World) : Prop where
  disk : DiskAt W d l m s
  jr : JAt W j d a z q o
  rows : RowsAt W lb (Jn.layN cs)
  lt : lb < W.heap.size
  far : lb ∉ [d, l, m, j]
  row : ChAt W A [d, l, m, j] cs
  only : Only [d, l, m, j] w W
theorem CmI.step {w : World} {j d l m a z : Nat} {o : Bool} {A : Option Addr} {cs : List Chg} {lb : Nat} {q q' : Int} {s s' : Dk.St} {W W' : World} {L : List Nat} (h : CmI w j d l m a z o A cs lb q s W) (ho : Only L W W') (hL : ∀ x ∈ L, x ∈ [d, l, m, j]) (hd : DiskAt W' d l m s') (hj : JAt W' j d a z q' o) : CmI w j d l m a z o A cs lb q' s' W' :=
  ⟨hd, hj, h.rows.block (ho.block lb h.lt (fun e => h.far (hL _ e))), Nat.lt_of_lt_of_le h.lt ho.size, h.far, h.row.only ho hL, h.only.trans (ho.mono hL)⟩
theorem CmI.below {w : World} {j d l m a z : Nat} {o : Bool} {A : Option Addr} {cs : List Chg} {lb : Nat} {q : Int} {s : Dk.St} {W W' : World} (h : CmI w j d l m a z o A cs lb q s W) (hb : Below W.heap.size W W') : CmI w j d l m a z o A cs lb q s W' :=
  h.step (Only.below (l := []) hb) (by simp) (h.disk.below hb) (h.jr.below hb)
theorem CmI.rows' {w : World} {j d l m a z : Nat} {o : Bool} {A : Option Addr} {cs : List Chg} {lb : Nat} {q : Int} {s : Dk.St} {W : World} (h : CmI w j d l m a z o A cs lb q s W) : RowsAt W lb (Jn.layN cs) := h.rows
theorem CmI.below' {w : World} {j d l m a z : Nat} {o : Bool} {A : Option Addr} {cs : List Chg} {lb : Nat} {q : Int} {s : Dk.St} {W W' : World} (h : CmI w j d l m a z o A cs lb q s W) (hb : Below W.heap.size W W') : CmI w j d l m a z o A cs lb q s W' := h.below hb
theorem CmI.c3 {w : World} {j d l m a z : Nat} {o : Bool} {A : Option Addr} {cs : List Chg} {lb : Nat} {q : Int} {s : Dk.St} {W : World} (h : CmI w j d l m a z o A cs lb q s W) : W.cell? ⟨j, 3, none⟩ = some (.int .i64 q) := h.jr.c3
def Done (w : World) (j d l m a z : Nat) (o : Bool) (q : Int) (R : Dk.St × Int) (e : Ending) (w' : World) : Prop :=
  e = .returned (.int .i64 R.2) ∧ DiskAt w' d l m R.1 ∧ (∃ q', JAt w' j d a z q' o ∧ (R.2 = 0 → q' = q + 2)) ∧ Only [d, l, m, j] w w'
theorem commit_any {w : World} {j d l m a z : Nat} {q : Int} {o : Bool} {s : Dk.St} {cs : List Chg} (hj : JAt w j d a z q o) (h : DiskAt w d l m s) (hjd : j ∉ [d, l, m]) (ha : a ≤ 900) (_hz : z ≤ 900) (A : Option Addr) (c : Nat) (hrow : ChAt w A [d, l, m, j] cs) (hm : Jn.May a z s.last.length cs) (hq0 : 0 ≤ q) (hq1 : q < 4294967290) :
    Calls Tryz.prog 175 #[.pointer (some ⟨j, 0, none⟩), .slice A cs.length c] w (Done w j d l m a z o q (Jn.runs s (Jn.steps a q cs))) := by
  have HJD := Lib.hid hjd
  have HPG : Hid (∀ x ∈ cs, x.page.length = 64) := Lib.hid (fun x hx => (hm.val x hx).2)
  have hnl17 : Jn.nl cs.length ≤ 17 := by have := hm.few; unfold Jn.nl; omega
  have hpos1 := hm.pos
  have HPL := Lib.hid (Jn.layN_pages HPG.out)
  have HLL := Lib.hid (Jn.layN_length cs)
  have HLY := Lib.hid (layout_any A c cs (hrow.mono (by simp)) HPG.out hm.pos hm.few)
  have HI0 : Hid (∀ W lb, RowsAt W lb (Jn.layN cs) → w.heap.size ≤ lb → lb < W.heap.size → Below w.heap.size w W → CmI w j d l m a z o A cs lb q s W) := Lib.hid (fun W lb h1 h2 h3 hb => ⟨h.below hb, hj.below hb, h1, h3, by have := h.dlt; have := h.llt; have := h.mlt; have := hj.lt; simp; omega, hrow.below hb, Only.below hb⟩)
  have HPT : Hid (∀ W lb, CmI w j d l m a z o A cs lb q s W → Calls Tryz.prog 183 #[regV d a z, .int .i64 ((a : Int) + 1), .slice (some ⟨lb, 0, none⟩) (Jn.nl cs.length + cs.length) (Jn.nl cs.length + cs.length)] W fun e w' => e = .returned (.int .i64 (Jn.runW s (Jn.layAt (a + 1) (Jn.layN cs))).2) ∧ CmI w j d l m a z o A cs lb q (Jn.runW s (Jn.layAt (a + 1) (Jn.layN cs))).1 w') := Lib.hid (fun W lb hW => by
    have := put_any hW.disk a (a + 1) z (some ⟨lb, 0, none⟩) (Jn.nl cs.length + cs.length) (Jn.layN cs) (hW.rows.slice (fun e => hW.far (by simp at e ⊢; omega))) HPL.out (by rw [HLL.out]; have := hm.few; omega) (by omega)
    rw [HLL.out, show ((a + 1 : Nat) : Int) = (a : Int) + 1 by omega] at this
    exact this.mono fun e w' ⟨h1, h2, h3⟩ => ⟨h1, hW.step h3 (by simp) h2 (hW.jr.only h3 hjd)⟩)
  have HSM : Hid (∀ W lb, RowsAt W lb (Jn.layN cs) → Calls Tryz.prog 186 #[.slice (some ⟨lb, 0, none⟩) (Jn.nl cs.length + cs.length) (Jn.nl cs.length + cs.length)] W fun e w' => e = .returned (.int .u32 (Jn.sumN (Jn.layN cs))) ∧ Below W.heap.size W w') := Lib.hid (fun W lb hT => by
    have hrow := (hT.slice (L := []) (by simp)).row (by rw [HLL.out]; have := hm.few; omega) hT.size
    rw [HLL.out] at hrow
    exact sumPages_any _ _ (Jn.nl cs.length + cs.length) _ W hrow (by have := hm.few; omega) (by omega))
  clear hnl17 hpos1
  have HRT : Hid (rightB (liveH (q + 1) cs) = true) := Lib.hid (Jn.live_right (by omega) (by omega) hm.pos (by have := hm.few; omega))
  have HSB := Lib.hid (Jn.sumN_bd (Jn.layN cs))
  have HLD0 : Hid (∀ W lb s1, CmI w j d l m a z o A cs lb q s1 W → Calls Tryz.prog 167 #[.pointer (some ⟨j, 0, none⟩), headV (liveH (q + 1) cs)] W fun e w' => e = .returned (.int .i64 (Jn.runW s1 [⟨(a : Int), pageH (liveH (q + 1) cs)⟩]).2) ∧ CmI w j d l m a z o A cs lb (q + 1) (Jn.runW s1 [⟨(a : Int), pageH (liveH (q + 1) cs)⟩]).1 w') := Lib.hid (fun W lb s1 hW => (lead_any hW.jr hW.disk hjd ha (liveH (q + 1) cs) HRT.out HSB.out.1 HSB.out.2).mono fun e w' ⟨h1, h2, h3, h4⟩ => ⟨h1, hW.step h4 (by simp) h2 h3⟩)
  have HAP : Hid (∀ W lb s1, CmI w j d l m a z o A cs lb (q + 1) s1 W → Calls Tryz.prog 170 #[regV d a z, .slice A cs.length c] W fun e w' => e = .returned (.int .i64 (Jn.runW s1 cs).2) ∧ CmI w j d l m a z o A cs lb (q + 1) (Jn.runW s1 cs).1 w') := Lib.hid (fun W lb s1 hW => (apply_any hW.disk a z A c cs (hW.row.mono (by simp)) HPG.out (by have := hm.few; omega)).mono fun e w' ⟨h1, h2, h3⟩ => ⟨h1, hW.step h3 (by simp) h2 (hW.jr.only h3 hjd)⟩)
  have HLE : Hid (∀ W lb s1, CmI w j d l m a z o A cs lb (q + 1) s1 W → Calls Tryz.prog 167 #[.pointer (some ⟨j, 0, none⟩), .agg #[.int .i64 (q + 1 + 1), .bool false, .int .i64 0, .int .u32 0]] W fun e w' => e = .returned (.int .i64 (Jn.runW s1 [⟨(a : Int), pageH (quietH (q + 2))⟩]).2) ∧ CmI w j d l m a z o A cs lb (q + 2) (Jn.runW s1 [⟨(a : Int), pageH (quietH (q + 2))⟩]).1 w') := Lib.hid (fun W lb s1 hW => by
    rw [show q + 1 + 1 = q + 2 by omega]
    exact (lead_any hW.jr hW.disk hjd ha (quietH (q + 2)) (Jn.quietH_right (by omega) (by omega)) (Int.le_refl 0) (show (0 : Int) < 4294967296 by omega)).mono fun e w' ⟨h1, h2, h3, h4⟩ => ⟨h1, hW.step h4 (by simp) h2 h3⟩)
  have hk32 := hm.few
  have HHV0 : Hid (∀ k : Nat, cs.length = k → Value.agg #[.int .i64 (q + 1), .bool true, .int .i64 (k : Int), .int .u32 (Jn.sumN (Jn.layN cs))] = headV (liveH (q + 1) cs)) := Lib.hid (fun k hk => by rw [← hk]; rfl)
  clear h hj hjd hrow hm
  have HST : Hid (Jn.steps a q cs = [Jn.layAt (a + 1) (Jn.layN cs), [⟨(a : Int), pageH (liveH (q + 1) cs)⟩], cs, [⟨(a : Int), pageH (quietH (q + 2))⟩]]) := Lib.hid rfl
  generalize hsteps : Jn.runs s (Jn.steps a q cs) = R
  rw [HST.out] at hsteps
  have HRS := Lib.hid hsteps
  clear hsteps HST
  obtain ⟨k, hk⟩ : ∃ k, cs.length = k := ⟨_, rfl⟩
  have HHV := Lib.hid (HHV0.out k hk)
  rw [hk] at HLY HPT HSM HAP hk32 ⊢
  generalize Jn.nl k = f at HLY HPT HSM
  clear hk HHV0
  generalize hhh : liveH (q + 1) cs = hh at HLD0 HHV HRS
  clear hhh
  have hq3 : IntKind.i64.wrap ((a : Int) + 1) = (a : Int) + 1 := IntWalk.i64_in _ (by omega)
  have hq4 : IntKind.i64.wrap (q + 1) = q + 1 := IntWalk.i64_in _ (by omega)
  go_enter Tryz.func175, Tryz.ntmps175
  go_wp2_with fail
  refine HLY.out.mono ?_
  rintro e w1 ⟨lb, rfl, hr1, hl1, hl2, hB1⟩
  have HI1 := Lib.hid (HI0.out _ _ hr1 hl1 hl2 hB1)
  clear hr1 hl1 hl2 hB1 HI0 HLY
  replace HPT := Lib.hid (fun W => HPT.out W lb)
  go_wp2_with fail
  refine wp_region_noPanic ?_
  refine wp_region_held_drew (S := fun W => JAt W j d a z q o) (by kernel_rfl) (HI1.out.jr.below (Below.refl _ _).drew) (fun hHeld => ?_)
  have HI2 := Lib.hid (HI1.out.below (Below.refl _ _).drew)
  clear HI1
  generalize w1.drew = w2 at HI2 hHeld ⊢
  refine take_at (i := 0) (d := some 11) (v := .pointer (some ⟨j, 0, none⟩)) rfl rfl (by kernel_rfl) (by kernel_rfl) (by kernel_rfl) (fun _ _ _ h => h) (Or.inl ⟨by kernel_rfl, ?_⟩) hHeld ?_
  · intro w hSw; have c1 := hSw.c1; go_simp
  (try simp only [Act.put, puA, puB, puC])
  refine take_at (i := 1) (d := some 12) (v := .pointer (some ⟨j, 0, none⟩)) rfl rfl (by kernel_rfl) (by kernel_rfl) (by kernel_rfl) (fun _ _ _ h => h) (Or.inl ⟨by kernel_rfl, ?_⟩) hHeld ?_
  · intro w hSw; have c1 := hSw.c1; go_simp
  (try simp only [Act.put, puA, puB, puC])
  refine take_at (i := 2) (d := some 13) (v := .pointer (some ⟨j, 0, none⟩)) rfl rfl (by kernel_rfl) (by kernel_rfl) (by kernel_rfl) (fun _ _ _ h => h) (Or.inl ⟨by kernel_rfl, ?_⟩) hHeld ?_
  · intro w hSw; have c1 := hSw.c1; go_simp
  (try simp only [Act.put, puA, puB, puC])
  refine take_at (i := 3) (d := some 14) (v := regV d a z) rfl rfl (by kernel_rfl) (by kernel_rfl) (by kernel_rfl) (fun _ _ _ h => h) (yields_reg (by kernel_rfl) (.tmp 13) rfl rfl (fun _ hSw => hSw.reg)) hHeld ?_
  (try simp only [Act.put, puA, puB, puC])
  refine take_at (i := 4) (d := some 15) (v := .pointer (some ⟨j, 0, none⟩)) rfl rfl (by kernel_rfl) (by kernel_rfl) (by kernel_rfl) (fun _ _ _ h => h) (Or.inl ⟨by kernel_rfl, ?_⟩) hHeld ?_
  · intro w hSw; have c1 := hSw.c1; go_simp
  (try simp only [Act.put, puA, puB, puC])
  refine take_at (i := 5) (d := some 16) (v := .pointer (some ⟨j, 0, none⟩)) rfl rfl (by kernel_rfl) (by kernel_rfl) (by kernel_rfl) (fun _ _ _ h => h) (Or.inl ⟨by kernel_rfl, ?_⟩) hHeld ?_
  · intro w hSw; have c1 := hSw.c1; go_simp
  (try simp only [Act.put, puA, puB, puC])
  refine take_at (i := 6) (d := some 17) (v := .pointer (some ⟨j, 0, none⟩)) rfl rfl (by kernel_rfl) (by kernel_rfl) (by kernel_rfl) (fun _ _ _ h => h) (Or.inl ⟨by kernel_rfl, ?_⟩) hHeld ?_
  · intro w hSw; have c1 := hSw.c1; go_simp
  (try simp only [Act.put, puA, puB, puC])
  refine take_at (i := 7) (d := some 18) (v := .pointer (some ⟨j, 1, none⟩)) rfl rfl (by kernel_rfl) (by kernel_rfl) (by kernel_rfl) (fun _ _ _ h => h) (Or.inl ⟨by kernel_rfl, ?_⟩) hHeld ?_
  · intro w hSw; have c1 := hSw.c1; go_simp
  (try simp only [Act.put, puA, puB, puC])
  refine take_at (i := 8) (d := some 19) (v := .int .i64 (a : Int)) rfl rfl (by kernel_rfl) (by kernel_rfl) (by kernel_rfl) (fun _ _ _ h => h) (Or.inl ⟨by kernel_rfl, ?_⟩) hHeld ?_
  · intro w hSw; have c1 := hSw.c1; go_simp
  (try simp only [Act.put, puA, puB, puC])
  refine take_at (i := 9) (d := some 20) (v := .int .i64 ((a : Int) + 1)) rfl rfl (by kernel_rfl) (by kernel_rfl) (by kernel_rfl) (fun _ _ _ h => h) (Or.inl ⟨by kernel_rfl, ?_⟩) hHeld ?_
  · intro w hSw; have c1 := hSw.c1; go_simp
  (try simp only [Act.put, puA, puB, puC])
  refine take_at (i := 10) (d := some 21) (v := .slice (some ⟨lb, 0, none⟩) (f + k) (f + k)) rfl rfl (by kernel_rfl) (by kernel_rfl) (by kernel_rfl) (fun _ _ _ h => h) (Or.inl ⟨by kernel_rfl, ?_⟩) hHeld ?_
  · intro w hSw; have c1 := hSw.c1; go_simp
  (try simp only [Act.put, puA, puB, puC])
  refine wpAnyH_ready (rs := [11]) (by kernel_rfl) (by simp) ?_
  refine AllReadyH.cons rfl (fun K hK => ?_) AllReadyH.nil
  go_simp
  (go_at_call 183; refine (HPT.out _ HI2.out).mono ?_; rintro e w3 ⟨rfl, hI3⟩; have HI3 := Lib.hid hI3; clear hI3)
  (try go_wp2_with fail)
  refine hK.out _ _ HI3.out.jr (fun hHeld => ?_)
  clear hK K
  (try simp only [Act.put, puA, puB, puC])
  refine take_at (i := 12) (d := some 6) (v := .int .i64 (Jn.runW s (Jn.layAt (a + 1) (Jn.layN cs))).2) rfl rfl (by kernel_rfl) (by kernel_rfl) (by kernel_rfl) (fun _ _ _ h => h) (Or.inl ⟨by kernel_rfl, ?_⟩) hHeld ?_
  · intro w hSw; have c1 := hSw.c1; go_simp
  (try simp only [Act.put, puA, puB, puC])
  refine wpAnyH_done (by kernel_rfl) ?_ _
  refine NoPanic.normal ?_
  by_cases hE1 : (Jn.runW s (Jn.layAt (a + 1) (Jn.layN cs))).2 = 0
  · have HR1 : Hid (R = Jn.runs (Jn.runW s (Jn.layAt (a + 1) (Jn.layN cs))).1 [[⟨(a : Int), pageH hh⟩], cs, [⟨(a : Int), pageH (quietH (q + 2))⟩]]) := Lib.hid (by rw [← HRS.out, runs_ok hE1])
    rw [hE1]
    clear hE1 HRS HPT HI2 hHeld
    generalize (Jn.runW s (Jn.layAt (a + 1) (Jn.layN cs))).1 = s1 at HI3 HR1
    have HLD1 := Lib.hid (fun W => HLD0.out W lb s1)
    have HRP : Hid (∀ (X : Dk.St × Int) , X = Jn.runW s1 [⟨(a : Int), pageH hh⟩] → X = Jn.runW s1 [⟨(a : Int), pageH hh⟩]) := Lib.hid (fun _ h => h)
    obtain ⟨X2, hX2⟩ : ∃ X, X = Jn.runW s1 [⟨(a : Int), pageH hh⟩] := ⟨_, rfl⟩
    rw [← hX2] at HLD1
    have HX2 := Lib.hid hX2
    clear hX2 HRP
    obtain ⟨s2, E2⟩ := X2
    simp only at HLD1
    have HLD : Hid (∀ W, CmI w j d l m a z o A cs lb (if false = true then q + 1 else q) (if false = true then s2 else s1) W → Calls Tryz.prog 167 #[.pointer (some ⟨j, 0, none⟩), headV hh] W fun e w' => e = .returned (.int .i64 E2) ∧ CmI w j d l m a z o A cs lb (if true = true then q + 1 else q) (if true = true then s2 else s1) w') := Lib.hid (fun W hW => HLD1.out W hW)
    clear HLD0 HLD1
    go_wp2_with fail
    refine wp_region_lin (fun (b : Bool) => CmI w j d l m a z o A cs lb (if b = true then q + 1 else q) (if b = true then s2 else s1)) (fun i => i == 4 || i == 11) (fun i => [.pointer (some ⟨j, 0, none⟩), .pointer (some ⟨j, 0, none⟩), .pointer (some ⟨j, 0, none⟩), .pointer (some ⟨j, 3, none⟩), undef, .int .i64 (q + 1), .slice A k c, .int .i64 (k : Int), .slice (some ⟨lb, 0, none⟩) (f + k) (f + k), .int .u32 (Jn.sumN (Jn.layN cs)), headV hh, undef, .int .i64 E2].getD i undef) (false) (by kernel_rfl) (by kernel_rfl) (HI3.out.below (Below.refl _ _).drew) ?_
    refine lin_step (i := 0) (d := some 26) (v := .pointer (some ⟨j, 0, none⟩)) rfl rfl (by kernel_rfl) (by kernel_rfl) rfl rfl (ord_value (by kernel_rfl) ?_) ?_
    · intro _ _ hS; go_simp
    (try simp only [Act.put, puA, puB, puC])
    refine lin_step (i := 1) (d := some 27) (v := .pointer (some ⟨j, 0, none⟩)) rfl rfl (by kernel_rfl) (by kernel_rfl) rfl rfl (ord_value (by kernel_rfl) ?_) ?_
    · intro _ _ hS; go_simp
    (try simp only [Act.put, puA, puB, puC])
    refine lin_step (i := 2) (d := some 28) (v := .pointer (some ⟨j, 0, none⟩)) rfl rfl (by kernel_rfl) (by kernel_rfl) rfl rfl (ord_value (by kernel_rfl) ?_) ?_
    · intro _ _ hS; go_simp
    (try simp only [Act.put, puA, puB, puC])
    refine lin_step (i := 3) (d := some 29) (v := .pointer (some ⟨j, 3, none⟩)) rfl rfl (by kernel_rfl) (by kernel_rfl) rfl rfl (ord_value (by kernel_rfl) ?_) ?_
    · intro _ _ hS; go_simp
    (try simp only [Act.put, puA, puB, puC])
    refine lin_turnD (i := 4) (d := some 30) [5, 10, 11] (fun u s => u = .int .i64 q ∧ s = false) rfl rfl (by kernel_rfl) (by kernel_rfl) rfl (by kernel_rfl) (⟨_, _, rfl, rfl⟩) (by kernel_rfl) (fun W hS => gives_value (v := .int .i64 q) (by have c3 := CmI.c3 hS; go_simp) ⟨false, ⟨rfl, rfl⟩, hS⟩) ?_
    rintro _ _ ⟨rfl, rfl⟩
    (try simp only [Act.put, puA, puB, puC])
    refine lin_step (i := 5) (d := some 31) (v := .int .i64 (q + 1)) rfl rfl (by kernel_rfl) (by kernel_rfl) rfl rfl (ord_value (by kernel_rfl) ?_) ?_
    · intro _ _ hS; go_simp
    (try simp only [Act.put, puA, puB, puC])
    refine lin_step (i := 6) (d := some 32) (v := .slice A k c) rfl rfl (by kernel_rfl) (by kernel_rfl) rfl rfl (ord_value (by kernel_rfl) ?_) ?_
    · intro _ _ hS; go_simp
    (try simp only [Act.put, puA, puB, puC])
    refine lin_step (i := 7) (d := some 33) (v := .int .i64 (k : Int)) rfl rfl (by kernel_rfl) (by kernel_rfl) rfl rfl (ord_value (by kernel_rfl) ?_) ?_
    · intro _ _ hS; go_simp
    (try simp only [Act.put, puA, puB, puC])
    refine lin_step (i := 8) (d := some 34) (v := .slice (some ⟨lb, 0, none⟩) (f + k) (f + k)) rfl rfl (by kernel_rfl) (by kernel_rfl) rfl rfl (ord_value (by kernel_rfl) ?_) ?_
    · intro _ _ hS; go_simp
    (try simp only [Act.put, puA, puB, puC])
    refine lin_step (i := 9) (d := some 35) (v := .int .u32 (Jn.sumN (Jn.layN cs))) rfl rfl (by kernel_rfl) (by kernel_rfl) rfl rfl (ord_call (f := 186) (args := #[.slice (some ⟨lb, 0, none⟩) (f + k) (f + k)]) (by kernel_rfl) ?_ (fun b W hS => (HSM.out W lb (CmI.rows' hS)).mono fun _ _ ⟨he, hb⟩ => ⟨he, CmI.below' hS hb⟩)) ?_
    · intro _; go_simp
    (try simp only [Act.put, puA, puB, puC])
    refine lin_step (i := 10) (d := some 36) (v := headV hh) rfl rfl (by kernel_rfl) (by kernel_rfl) rfl rfl (ord_value (by kernel_rfl) ?_) ?_
    · intro _ _ _; go_simp; exact HHV.out
    (try simp only [Act.put, puA, puB, puC])
    refine lin_turnD (i := 11) (d := some 37) [] (fun u s => u = .int .i64 E2 ∧ s = true) rfl rfl (by kernel_rfl) (by kernel_rfl) rfl (by kernel_rfl) (⟨_, _, rfl, rfl⟩) (by kernel_rfl) (fun W hS => gives_call (f := 167) (args := #[.pointer (some ⟨j, 0, none⟩), headV hh]) (by go_simp) ((HLD.out W hS).mono fun e w' ⟨he, hS'⟩ => ⟨_, he, true, ⟨rfl, rfl⟩, hS'⟩)) ?_
    rintro _ _ ⟨rfl, rfl⟩
    (try simp only [Act.put, puA, puB, puC])
    refine lin_step (i := 12) (d := some 7) (v := .int .i64 E2) rfl rfl (by kernel_rfl) (by kernel_rfl) rfl rfl (ord_value (by kernel_rfl) ?_) ?_
    · intro _ _ hS; go_simp
    (try simp only [Act.put, puA, puB, puC])
    refine lin_done (by kernel_rfl) ?_
    intro w4 hS4
    have HI4 : Hid (CmI w j d l m a z o A cs lb (q + 1) s2 w4) := Lib.hid hS4
    clear hS4 HI3 HLD HSM
    by_cases hE2 : E2 = 0
    · have HR2 : Hid (R = Jn.runs s2 [cs, [⟨(a : Int), pageH (quietH (q + 2))⟩]]) := Lib.hid (by rw [HR1.out, runs_ok (by rw [← HX2.out]; exact hE2), ← HX2.out])
      subst hE2
      clear HR1 HX2
      go_wp2_with (with_reducible refine wpList_load_reg HI4.out.jr.reg rfl (.tmp 43) rfl rfl ?_)
      refine (HAP.out _ _ _ HI4.out).mono ?_
      rintro e w5 ⟨rfl, hI5⟩
      have HI5 := Lib.hid hI5
      clear hI5 HI4
      by_cases hE3 : (Jn.runW s2 cs).2 = 0
      · have HR3 : Hid (R = Jn.runW (Jn.runW s2 cs).1 [⟨(a : Int), pageH (quietH (q + 2))⟩]) := Lib.hid (by rw [HR2.out, runs_ok hE3, runs_one])
        rw [hE3]
        clear hE3 HR2
        have c3 := CmI.c3 HI5.out
        go_wp2_with fail
        refine (HLE.out _ _ _ HI5.out).mono ?_
        rintro e w6 ⟨rfl, hI6⟩
        have HI6 := Lib.hid hI6
        clear hI6 HI5 c3
        go_wp2_with fail
        go_ret
        rw [HR3.out]
        exact ⟨rfl, HI6.out.disk, ⟨_, HI6.out.jr, fun _ => rfl⟩, HI6.out.only⟩
      · have HR3 : Hid (R = Jn.runW s2 cs) := Lib.hid (by rw [HR2.out, runs_bad hE3])
        have HNE := Lib.hid hE3
        have hne2 : ((Jn.runW s2 cs).2 == 0) = false := by simpa using hE3
        have hne3 : ((Jn.runW s2 cs).2 != 0) = true := by simpa using hE3
        clear hE3 HR2
        go_wp2_with fail
        go_ret
        rw [HR3.out]
        exact ⟨rfl, HI5.out.disk, ⟨_, HI5.out.jr, fun e => absurd e HNE.out⟩, HI5.out.only⟩
    · have HR2 : Hid (R = (s2, E2)) := Lib.hid (by rw [HR1.out, runs_bad (by rw [← HX2.out]; exact hE2), ← HX2.out])
      have HNE := Lib.hid hE2
      have hne2 : (E2 == 0) = false := by simpa using hE2
      have hne3 : (E2 != 0) = true := by simpa using hE2
      clear hE2 HR1
      go_wp2_with fail
      go_ret
      rw [HR2.out]
      exact ⟨rfl, HI4.out.disk, ⟨_, HI4.out.jr, fun e => absurd e HNE.out⟩, HI4.out.only⟩
  · have HR1 : Hid (R = Jn.runW s (Jn.layAt (a + 1) (Jn.layN cs))) := Lib.hid (by rw [← HRS.out, runs_bad hE1])
    have HNE := Lib.hid hE1
    have hne2 : ((Jn.runW s (Jn.layAt (a + 1) (Jn.layN cs))).2 == 0) = false := by simpa using hE1
    have hne3 : ((Jn.runW s (Jn.layAt (a + 1) (Jn.layN cs))).2 != 0) = true := by simpa using hE1
    clear hE1 HRS
    go_wp2_with fail
    go_ret
    rw [HR1.out]
    exact ⟨rfl, HI3.out.disk, ⟨_, HI3.out.jr, fun e => absurd e HNE.out⟩, HI3.out.only⟩
end

section
open Go.RowKit
open Dk (zeros zeros_length)
open Hd (Head rightB pageH)
open Jn (Chg quietH liveH)
theorem takes_all {n a z : Nat} (cs : List Chg) : ∀ (f : Nat → Bool), takesFrom n a z f cs = true → ∀ c ∈ cs, otherB n a z c.no = true := by
  induction cs with
  | nil => intro f _ c hc; cases hc
  | cons x r ih =>
    intro f h c hc
    rw [takesFrom] at h
    by_cases hx : otherB n a z x.no = true ∧ f x.no.toNat = false
    · rw [if_pos hx] at h
      rcases List.mem_cons.1 hc with rfl | hc
      · exact hx.1
      · exact ih _ h c hc
    · rw [if_neg hx] at h; cases h
theorem takes_may {n a z r : Nat} {cs : List Chg} (h : takesB n a z cs = true) (hp : ∀ c ∈ cs, c.page.length = 64) (h1 : 1 ≤ cs.length) (h2 : cs.length ≤ r) (hr : r ≤ 512) (hz : 1 + Jn.nl r + r ≤ z) (hreg : a + z ≤ n) (hn : n ≤ 512) : Jn.May a z n cs where
  val := fun c hc => by
    have := of_decide_eq_true (takes_all cs _ h c hc)
    exact ⟨decide_eq_true ⟨this.1, this.2.1⟩, hp c hc⟩
  out := fun c hc => by
    have := of_decide_eq_true (takes_all cs _ h c hc)
    omega
  pos := h1
  few := by omega
  fit := by
    have : Jn.nl cs.length ≤ Jn.nl r := by unfold Jn.nl; omega
    omega
  reg := hreg
  top := hn
theorem over_any {w : World} {j d a z : Nat} {q : Int} {o : Bool} (hj : JAt w j d a z q o) : Calls Tryz.prog 117 #[.pointer (some ⟨j, 0, none⟩)] w fun e w' => e = .returned (.bool o) ∧ w = w' := by
  have c4 := hj.c4
  clear hj
  go_enter Tryz.func117, Tryz.ntmps117
  go_wp2
  go_ret
  exact ⟨rfl, rfl⟩
theorem mroom_any {w : World} {j d a z r : Nat} {q : Int} {o : Bool} (hj : JAt w j d a z q o) (hroom : RoomIs z r) : Calls Tryz.prog 119 #[.pointer (some ⟨j, 0, none⟩)] w fun e w' => e = .returned (.int .i64 (r : Int)) ∧ w = w' := by
  have c2 := hj.c2
  have HR : Hid (∀ w, Calls Tryz.prog 143 #[.int .i64 (z : Int)] w fun e w' => e = .returned (.int .i64 (r : Int)) ∧ w = w') := Lib.hid hroom
  clear hj hroom
  go_enter Tryz.func119, Tryz.ntmps119
  go_wp2_with (go_at_call 143; refine (HR.out _).mono ?_; rintro e w' ⟨rfl, rfl⟩)
  go_ret
  exact ⟨rfl, rfl⟩
def Comm (w : World) (j d l m a z r n : Nat) (q : Int) (s : Dk.St) (cs : List Chg) (e : Ending) (w' : World) : Prop :=
  (takesB n a z cs = false ∧ e = .returned (.int .i64 22) ∧ Below w.heap.size w w') ∨
  (r < cs.length ∧ e = .returned (.int .i64 28) ∧ Below w.heap.size w w') ∨
  (cs = [] ∧ e = .returned (.int .i64 0) ∧ Below w.heap.size w w') ∨
  (Jn.May a z n cs ∧ e = .returned (.int .i64 (Jn.runs s (Jn.steps a q cs)).2) ∧ DiskAt w' d l m (Jn.runs s (Jn.steps a q cs)).1 ∧ (∃ q', JAt w' j d a z q' ((Jn.runs s (Jn.steps a q cs)).2 != 0) ∧ ((Jn.runs s (Jn.steps a q cs)).2 = 0 → q' = q + 2)) ∧ Only [d, l, m, j] w w')
theorem outer_any {w : World} {j d l m a z r : Nat} {q : Int} {s : Dk.St} {cs : List Chg} (hj : JAt w j d a z q false) (h : DiskAt w d l m s) (hjd : j ∉ [d, l, m]) (ha : a ≤ 900) (hz : z ≤ 900) (hroom : RoomIs z r) (hr : r ≤ 512) (hrz : 1 + Jn.nl r + r ≤ z) (hreg : a + z ≤ s.last.length) (A : Option Addr) (c : Nat) (hrow : ChAt w A [d, l, m, j] cs) (hp : ∀ x ∈ cs, x.page.length = 64) (hl : cs.length ≤ 900) (hq0 : 0 ≤ q) (hq1 : q < 4294967290) :
    Calls Tryz.prog 156 #[.pointer (some ⟨j, 0, none⟩), .slice A cs.length c] w (Comm w j d l m a z r s.last.length q s cs) := by
  have HJD := Lib.hid hjd
  have HOV := Lib.hid (over_any hj)
  have HTK := Lib.hid (takes_any h a z (by omega) (by omega) A c cs (hrow.mono (by simp)) hp (by omega))
  have HRG := Lib.hid hj.reg
  have HI : Hid (∀ W, Below w.heap.size w W → JAt W j d a z q false ∧ DiskAt W d l m s ∧ ChAt W A [d, l, m, j] cs) := Lib.hid (fun W hb => ⟨hj.below hb, h.below hb, hrow.below hb⟩)
  have HMY := Lib.hid (fun (ht : takesB s.last.length a z cs = true) (h1 : 1 ≤ cs.length) (h2 : cs.length ≤ r) => takes_may ht hp h1 h2 hr hrz hreg h.ok.small)
  have HRM := Lib.hid hroom
  clear h hj hjd hrow hp hroom hreg
  unfold Comm
  generalize hR : Jn.runs s (Jn.steps a q cs) = R
  have HRR := Lib.hid hR
  clear hR
  generalize hnn : s.last.length = n at HTK HMY ⊢
  have HNN : Hid (n = s.last.length) := Lib.hid hnn.symm
  clear hnn
  obtain ⟨k, hk⟩ : ∃ k, cs.length = k := ⟨_, rfl⟩
  have HK := Lib.hid hk
  rw [hk] at HTK hl HMY ⊢
  clear hk
  go_enter Tryz.func156, Tryz.ntmps156
  go_wp2_with fail
  refine HOV.out.mono ?_
  rintro e w' ⟨rfl, rfl⟩
  clear HOV
  go_wp2_with (with_reducible refine wpList_load_reg HRG.out rfl (.tmp 10) rfl rfl ?_)
  refine HTK.out.mono ?_
  rintro e w2 ⟨rfl, hB2⟩
  have HB2 := Lib.hid hB2
  have HI2 := Lib.hid (HI.out _ hB2)
  clear hB2 HTK HRG HI
  cases ht : takesB n a z cs with
  | false =>
    go_wp2_with fail
    go_ret
    exact Or.inl ⟨ht, rfl, HB2.out⟩
  | true =>
    have HT := Lib.hid ht
    clear ht
    have HMR := Lib.hid (mroom_any HI2.out.1 HRM.out)
    go_wp2_with fail
    refine HMR.out.mono ?_
    rintro e w' ⟨rfl, rfl⟩
    clear HMR
    by_cases hkr : r < k
    · have hkr' : (r : Int) < (k : Int) := by omega
      go_wp2_with fail
      go_ret
      exact Or.inr (Or.inl ⟨hkr, rfl, HB2.out⟩)
    · have hkr' : ¬ ((r : Int) < (k : Int)) := by omega
      by_cases hk0 : k = 0
      · subst hk0
        have HN : Hid (cs = []) := Lib.hid (List.eq_nil_of_length_eq_zero HK.out)
        go_wp2_with fail
        go_ret
        exact Or.inr (Or.inr (Or.inl ⟨HN.out, rfl, HB2.out⟩))
      · have hk1 : ((k : Int) == 0) = false := by rw [beq_eq_false_iff_ne]; omega
        have HM := Lib.hid (HMY.out HT.out (by omega) (by omega))
        have HCM : Hid (Calls Tryz.prog 175 #[.pointer (some ⟨j, 0, none⟩), .slice A k c] w2 (Done w2 j d l m a z false q R)) := Lib.hid (by
          rw [← HRR.out]
          have hmm := HM.out
          have hnn : n = s.last.length := HNN.out
          rw [hnn] at hmm
          have := commit_any HI2.out.1 HI2.out.2.1 HJD.out ha hz A c HI2.out.2.2 hmm hq0 hq1
          rw [HK.out] at this
          exact this)
        clear hk0
        go_wp2_with fail
        refine HCM.out.mono ?_
        rintro e w3 ⟨rfl, hd3, ⟨q3, hj3, hq3⟩, ho3⟩
        have HJ3 := Lib.hid hj3
        have HO3 : Hid (Only [d, l, m, j] w w3) := Lib.hid ((Only.below HB2.out).trans ho3)
        have HQ3 := Lib.hid hq3
        have HD3 := Lib.hid hd3
        have c4 := hj3.c4
        have f4 := hj3.f 4 (by omega)
        clear hd3 hj3 hq3 ho3 HCM HI2
        go_wp2_with fail
        go_ret
        refine Or.inr (Or.inr (Or.inr ⟨HM.out, rfl, ?_, ⟨q3, HJ3.out.setOver _, HQ3.out⟩, HO3.out.setCell (by simp) _⟩))
        exact HD3.out.only (L := [j]) ((Only.refl [j] w3).setCell (p := ⟨j, 4, none⟩) (by simp) _) (fun e => HJD.out (by simp at e ⊢; omega)) (fun e => HJD.out (by simp at e ⊢; omega)) (fun e => HJD.out (by simp at e ⊢; omega))
end

section
open Dk (zeros zeros_length)
open Jn (Chg)
abbrev Pgs : Type := List (Option (List UInt8))
def cntO (c : Pgs) : Nat := c.countP (·.isSome)
def noPgs (n : Nat) : Pgs := List.replicate n none
def chgsFrom : Nat → Pgs → List Chg
  | _, [] => []
  | i, none :: r => chgsFrom (i + 1) r
  | i, some p :: r => ⟨(i : Int), p⟩ :: chgsFrom (i + 1) r
def chgs (c : Pgs) : List Chg := chgsFrom 0 c
theorem chgsFrom_length : ∀ (c : Pgs) (i : Nat), (chgsFrom i c).length = cntO c
  | [], _ => rfl
  | none :: r, i => by
    rw [chgsFrom, chgsFrom_length r (i + 1)]; unfold cntO; simp
  | some p :: r, i => by
    rw [chgsFrom, List.length_cons, chgsFrom_length r (i + 1)]; unfold cntO; simp
theorem chgs_length (c : Pgs) : (chgs c).length = cntO c := chgsFrom_length c 0
theorem chgsFrom_mem : ∀ (c : Pgs) (i : Nat) (x : Chg), x ∈ chgsFrom i c ↔ ∃ k : Nat, x.no = ((i + k : Nat) : Int) ∧ c.getD k none = some x.page
  | [], i, x => by simp [chgsFrom]
  | none :: r, i, x => by
    rw [chgsFrom, chgsFrom_mem r (i + 1) x]
    constructor
    · rintro ⟨k, h1, h2⟩
      exact ⟨k + 1, by rw [h1]; congr 1; omega, by simpa using h2⟩
    · rintro ⟨k, h1, h2⟩
      cases k with
      | zero => simp at h2
      | succ k => exact ⟨k, by rw [h1]; congr 1; omega, by simpa using h2⟩
  | some p :: r, i, x => by
    rw [chgsFrom, List.mem_cons, chgsFrom_mem r (i + 1) x]
    constructor
    · rintro (rfl | ⟨k, h1, h2⟩)
      · exact ⟨0, rfl, rfl⟩
      · exact ⟨k + 1, by rw [h1]; congr 1; omega, by simpa using h2⟩
    · rintro ⟨k, h1, h2⟩
      cases k with
      | zero =>
        left
        cases x with
        | mk no page =>
          simp at h1 h2
          rw [h1, h2]
      | succ k => exact Or.inr ⟨k, by rw [h1]; congr 1; omega, by simpa using h2⟩
theorem chgs_mem {c : Pgs} {x : Chg} : x ∈ chgs c ↔ ∃ k : Nat, x.no = (k : Int) ∧ c.getD k none = some x.page := by
  unfold chgs
  rw [chgsFrom_mem]
  simp only [Nat.zero_add]
theorem chgsFrom_pw : ∀ (c : Pgs) (i : Nat), (chgsFrom i c).Pairwise (fun x y => x.no < y.no)
  | [], _ => List.Pairwise.nil
  | none :: r, i => by rw [chgsFrom]; exact chgsFrom_pw r (i + 1)
  | some p :: r, i => by
    rw [chgsFrom]
    refine List.Pairwise.cons (fun x hx => ?_) (chgsFrom_pw r (i + 1))
    obtain ⟨k, h1, _⟩ := (chgsFrom_mem r (i + 1) x).1 hx
    show (i : Int) < x.no
    rw [h1]; omega
theorem chgs_pw (c : Pgs) : (chgs c).Pairwise (fun x y => x.no < y.no) := chgsFrom_pw c 0
theorem cntO_no (n : Nat) : cntO (noPgs n) = 0 := by unfold cntO noPgs; simp [List.countP_replicate]
theorem noPgs_at (n i : Nat) : (noPgs n).getD i none = none := by
  unfold noPgs
  rw [List.getD_eq_getElem?_getD, List.getElem?_replicate]
  split <;> rfl
theorem cntO_zero {c : Pgs} (h : cntO c = 0) : c = noPgs c.length := by
  unfold cntO at h
  rw [List.countP_eq_zero] at h
  unfold noPgs
  rw [List.eq_replicate_iff]
  refine ⟨rfl, fun x hx => ?_⟩
  have := h x hx
  cases x with
  | none => rfl
  | some p => simp at this
theorem pgs_lt {c : Pgs} {k : Nat} {p : List UInt8} (h : c.getD k none = some p) : k < c.length := by
  rw [List.getD_eq_getElem?_getD] at h
  by_cases hk : k < c.length
  · exact hk
  · rw [List.getElem?_eq_none (by omega)] at h; cases h
theorem pgs_ext {a b : Pgs} (hl : a.length = b.length) (h : ∀ i, i < a.length → a.getD i none = b.getD i none) : a = b := Jn.getD_ext none hl h
theorem pgs_set_at (c : Pgs) (i j : Nat) (p : List UInt8) (hi : i < c.length) : (c.set i (some p)).getD j none = if i = j then some p else c.getD j none := by
  rw [List.getD_eq_getElem?_getD, List.getElem?_set]
  by_cases e : i = j
  · rw [if_pos e, if_pos hi, if_pos e]; rfl
  · rw [if_neg e, if_neg e, List.getD_eq_getElem?_getD]
def joinP (g t : Pgs) : Pgs := (List.range g.length).map fun i => (t.getD i none).or (g.getD i none)
theorem joinP_length (g t : Pgs) : (joinP g t).length = g.length := by unfold joinP; simp
theorem joinP_at (g t : Pgs) (i : Nat) (hi : i < g.length) : (joinP g t).getD i none = (t.getD i none).or (g.getD i none) := by
  unfold joinP
  rw [List.getD_eq_getElem?_getD, List.getElem?_map, List.getElem?_range hi]; rfl
structure Sto where
  dk : Dk.St
  a : Nat
  z : Nat
  r : Nat
  q : Int
  over : Bool
  step : Pgs
  group : Pgs
def pagesOk (n a z : Nat) (c : Pgs) : Prop := ∀ k p, c.getD k none = some p → p.length = 64 ∧ otherB n a z (k : Int) = true
structure Sto.Ok (s : Sto) : Prop where
  slen : s.step.length = s.dk.last.length
  glen : s.group.length = s.dk.last.length
  spg : pagesOk s.dk.last.length s.a s.z s.step
  gpg : pagesOk s.dk.last.length s.a s.z s.group
  scnt : cntO s.step ≤ s.r
  gcnt : cntO s.group ≤ s.r
  a9 : s.a ≤ 900
  z9 : s.z ≤ 900
  reg : s.a + s.z ≤ s.dk.last.length
  room : RoomIs s.z s.r
  r1 : 1 ≤ s.r
  r32 : s.r ≤ 512
  rz : 1 + Jn.nl s.r + s.r ≤ s.z
def sreachE (s : Sto) (i : Int) : Int := if s.over = true then 5 else if otherB s.dk.last.length s.a s.z i = true then 0 else 22
def sheld (s : Sto) (i : Nat) : Option (List UInt8) := (s.step.getD i none).or (s.group.getD i none)
def sreadP (s : Sto) (i : Int) : List UInt8 := if sreachE s i = 0 then (sheld s i.toNat).getD (Dk.readP s.dk i) else zeros
def sreadE (s : Sto) (i : Int) : Int := if sreachE s i = 0 then (if (sheld s i.toNat).isSome = true then 0 else Dk.reachE s.dk i) else sreachE s i
def sputE (s : Sto) (i : Int) : Int := if sreachE s i = 0 then (if (s.step.getD i.toNat none).isSome = false ∧ s.r ≤ cntO s.step then 28 else 0) else sreachE s i
def sput (s : Sto) (i : Int) (p : List UInt8) : Sto := if sputE s i = 0 then { s with step := s.step.set i.toNat (some p) } else s
def sdrop (s : Sto) : Sto := { s with step := noPgs s.dk.last.length }
def srun (s : Sto) : Dk.St × Int := Jn.runs s.dk (Jn.steps s.a s.q (chgs s.group))
def ssyncE (s : Sto) : Int := if s.over = true then 5 else if cntO s.group = 0 then 0 else (srun s).2
def scommit (s : Sto) : Sto := { s with dk := (srun s).1, over := (srun s).2 != 0, q := s.q + 2 }
def ssync (s : Sto) : Sto :=
  if s.over = true then s
  else if cntO s.group = 0 then s
  else if (srun s).2 = 0 then { scommit s with group := noPgs s.dk.last.length }
  else scommit s
def stog (s : Sto) : Nat := cntO (joinP s.group s.step)
def sjoin (s : Sto) : Sto := { s with group := joinP s.group s.step, step := noPgs s.dk.last.length }
def skeepE (s : Sto) : Int := if s.over = true then 5 else if s.r < stog s then ssyncE s else 0
def skeep (s : Sto) : Sto :=
  if s.over = true then s
  else if s.r < stog s then (if ssyncE s = 0 then sjoin (ssync s) else ssync s)
  else sjoin s
end

section
open Go.RowKit Go.Maps
open Dk (zeros zeros_length)
open Jn (Chg)
structure Blk where
  s : Nat
  j : Nat
  d : Nat
  l : Nat
  m : Nat
  t : Nat
  g : Nat
def Blk.all (b : Blk) : List Nat := [b.s, b.j, b.d, b.l, b.m, b.t, b.g]
def stVals (b : Blk) (a z : Nat) : List Value := [.pointer (some ⟨b.j, 0, none⟩), .pointer (some ⟨b.d, 0, none⟩), .int .i64 (a : Int), .int .i64 (z : Int), .map (some b.t), .map (some b.g)]
structure StoreAt (w : World) (b : Blk) (s : Sto) : Prop where
  row : RowAt w b.s (stVals b s.a s.z)
  ja : ∃ q, JAt w b.j b.d s.a s.z q s.over ∧ (s.over = false → q = s.q)
  disk : DiskAt w b.d b.l b.m s.dk
  step : MapAt w b.t s.step
  group : MapAt w b.g s.group
  nd : b.all.Nodup
  ok : s.Ok
theorem StoreAt.c0 {w : World} {b : Blk} {s : Sto} (h : StoreAt w b s) : w.cell? ⟨b.s, 0, none⟩ = some (.pointer (some ⟨b.j, 0, none⟩)) := h.row.cell 0 _ rfl
theorem StoreAt.c1 {w : World} {b : Blk} {s : Sto} (h : StoreAt w b s) : w.cell? ⟨b.s, 1, none⟩ = some (.pointer (some ⟨b.d, 0, none⟩)) := h.row.cell 1 _ rfl
theorem StoreAt.c2 {w : World} {b : Blk} {s : Sto} (h : StoreAt w b s) : w.cell? ⟨b.s, 2, none⟩ = some (.int .i64 (s.a : Int)) := h.row.cell 2 _ rfl
theorem StoreAt.c3 {w : World} {b : Blk} {s : Sto} (h : StoreAt w b s) : w.cell? ⟨b.s, 3, none⟩ = some (.int .i64 (s.z : Int)) := h.row.cell 3 _ rfl
theorem StoreAt.c4 {w : World} {b : Blk} {s : Sto} (h : StoreAt w b s) : w.cell? ⟨b.s, 4, none⟩ = some (.map (some b.t)) := h.row.cell 4 _ rfl
theorem StoreAt.c5 {w : World} {b : Blk} {s : Sto} (h : StoreAt w b s) : w.cell? ⟨b.s, 5, none⟩ = some (.map (some b.g)) := h.row.cell 5 _ rfl
theorem StoreAt.lt {w : World} {b : Blk} {s : Sto} (h : StoreAt w b s) : ∀ k ∈ b.all, k < w.heap.size := by
  intro k hk
  obtain ⟨q, hj, _⟩ := h.ja
  unfold Blk.all at hk
  simp only [List.mem_cons, List.not_mem_nil, or_false] at hk
  rcases hk with rfl | rfl | rfl | rfl | rfl | rfl | rfl
  · exact h.row.lt
  · exact hj.lt
  · exact h.disk.dlt
  · exact h.disk.llt
  · exact h.disk.mlt
  · exact h.step.lt
  · exact h.group.lt
theorem StoreAt.blocks {w w' : World} {b : Blk} {s : Sto} (h : StoreAt w b s) (hb : ∀ k ∈ b.all, w'.heap[k]? = w.heap[k]?) : StoreAt w' b s := by
  obtain ⟨q, hj, hq⟩ := h.ja
  have e : ∀ k, k ∈ b.all → w'.heap[k]? = w.heap[k]? := hb
  exact ⟨h.row.block (e _ (by simp [Blk.all])), ⟨q, hj.block (e _ (by simp [Blk.all])), hq⟩, h.disk.blocks (e _ (by simp [Blk.all])) (e _ (by simp [Blk.all])) (e _ (by simp [Blk.all])), h.step.block (e _ (by simp [Blk.all])), h.group.block (e _ (by simp [Blk.all])), h.nd, h.ok⟩
theorem StoreAt.only {w w' : World} {b : Blk} {s : Sto} {L : List Nat} (h : StoreAt w b s) (ho : Only L w w') (hL : ∀ k ∈ b.all, k ∉ L) : StoreAt w' b s :=
  h.blocks fun k hk => ho.block k (h.lt k hk) (hL k hk)
theorem StoreAt.below {w w' : World} {b : Blk} {s : Sto} (h : StoreAt w b s) (hb : Below w.heap.size w w') : StoreAt w' b s := h.blocks fun k hk => hb.block k (h.lt k hk)
theorem StoreAt.alloc {w : World} {b : Blk} {s : Sto} (h : StoreAt w b s) (o : Obj) : StoreAt (w.alloc o) b s := h.below ((Below.refl _ _).alloc (Nat.le_refl _) _)
theorem StoreAt.drewN {w : World} {b : Blk} {s : Sto} (h : StoreAt w b s) (n : Nat) : StoreAt (w.drewN n) b s := h.blocks fun _ _ => rfl
theorem StoreAt.drew {w : World} {b : Blk} {s : Sto} (h : StoreAt w b s) : StoreAt w.drew b s := h.blocks fun _ _ => rfl
theorem Blk.ne {b : Blk} (h : b.all.Nodup) : b.s ≠ b.j ∧ b.s ≠ b.d ∧ b.s ≠ b.l ∧ b.s ≠ b.m ∧ b.s ≠ b.t ∧ b.s ≠ b.g ∧ b.j ≠ b.d ∧ b.j ≠ b.l ∧ b.j ≠ b.m ∧ b.j ≠ b.t ∧ b.j ≠ b.g ∧ b.d ≠ b.t ∧ b.d ≠ b.g ∧ b.l ≠ b.t ∧ b.l ≠ b.g ∧ b.m ≠ b.t ∧ b.m ≠ b.g ∧ b.t ≠ b.g := by
  unfold Blk.all at h
  simp only [List.nodup_cons, List.mem_cons, List.not_mem_nil, or_false, not_or] at h
  obtain ⟨⟨h1, h2, h3, h4, h5, h6⟩, ⟨h7, h8, h9, h10, h11⟩, ⟨h12, h13, h14, h15⟩, ⟨h16, h17, h18⟩, ⟨h19, h20⟩, h21, _⟩ := h
  exact ⟨h1, h2, h3, h4, h5, h6, h7, h8, h9, h10, h11, h14, h15, h17, h18, h19, h20, h21⟩
theorem StoreAt.setStep {w w' : World} {b : Blk} {s : Sto} (h : StoreAt w b s) (ho : Only [b.t] w w') {c : Pgs} (hm : MapAt w' b.t c) (hok : Sto.Ok { s with step := c }) : StoreAt w' b { s with step := c } := by
  obtain ⟨q, hj, hq⟩ := h.ja
  have ne := Blk.ne h.nd
  have e : ∀ k, k ∈ b.all → k ≠ b.t → w'.heap[k]? = w.heap[k]? := fun k hk hn => ho.block k (h.lt k hk) (by simpa using hn)
  exact ⟨h.row.block (e _ (by simp [Blk.all]) ne.2.2.2.2.1), ⟨q, hj.block (e _ (by simp [Blk.all]) (by omega)), hq⟩, h.disk.blocks (e _ (by simp [Blk.all]) (by omega)) (e _ (by simp [Blk.all]) (by omega)) (e _ (by simp [Blk.all]) (by omega)), hm, h.group.block (e _ (by simp [Blk.all]) (by omega)), h.nd, hok⟩
theorem StoreAt.setGroup {w w' : World} {b : Blk} {s : Sto} (h : StoreAt w b s) (ho : Only [b.g] w w') {c : Pgs} (hm : MapAt w' b.g c) (hok : Sto.Ok { s with group := c }) : StoreAt w' b { s with group := c } := by
  obtain ⟨q, hj, hq⟩ := h.ja
  have ne := Blk.ne h.nd
  have e : ∀ k, k ∈ b.all → k ≠ b.g → w'.heap[k]? = w.heap[k]? := fun k hk hn => ho.block k (h.lt k hk) (by simpa using hn)
  exact ⟨h.row.block (e _ (by simp [Blk.all]) (by omega)), ⟨q, hj.block (e _ (by simp [Blk.all]) (by omega)), hq⟩, h.disk.blocks (e _ (by simp [Blk.all]) (by omega)) (e _ (by simp [Blk.all]) (by omega)) (e _ (by simp [Blk.all]) (by omega)), h.step.block (e _ (by simp [Blk.all]) (by omega)), hm, h.nd, hok⟩
theorem pagesOk_no (n a z k : Nat) : pagesOk n a z (noPgs k) := fun i p h => by rw [noPgs_at] at h; cases h
theorem pagesOk_set {n a z : Nat} {c : Pgs} (h : pagesOk n a z c) {i : Nat} {p : List UInt8} (hi : i < c.length) (hp : p.length = 64) (ho : otherB n a z (i : Int) = true) : pagesOk n a z (c.set i (some p)) := fun k x hx => by
  rw [pgs_set_at _ _ _ _ hi] at hx
  by_cases e : i = k
  · rw [if_pos e] at hx
    injection hx with hx
    subst hx; subst e
    exact ⟨hp, ho⟩
  · rw [if_neg e] at hx; exact h k x hx
theorem pagesOk_join {n a z : Nat} {g t : Pgs} (hg : pagesOk n a z g) (ht : pagesOk n a z t) : pagesOk n a z (joinP g t) := fun k p hp => by
  have hk := pgs_lt hp
  rw [joinP_length] at hk
  rw [joinP_at _ _ _ hk] at hp
  cases e : t.getD k none with
  | some x => rw [e] at hp; injection hp with hp; subst hp; exact ht k x e
  | none => rw [e] at hp; exact hg k p hp
theorem sdrop_ok {s : Sto} (h : s.Ok) : (sdrop s).Ok := ⟨List.length_replicate, h.glen, pagesOk_no _ _ _ _, h.gpg, by show cntO (noPgs _) ≤ _; rw [cntO_no]; exact Nat.zero_le _, h.gcnt, h.a9, h.z9, h.reg, h.room, h.r1, h.r32, h.rz⟩
theorem cntO_set (c : Pgs) (i : Nat) (p : List UInt8) (hi : i < c.length) : cntO (c.set i (some p)) = if (c.getD i none).isSome then cntO c else cntO c + 1 := count_set c i p hi
theorem sput_ok {s : Sto} (h : s.Ok) {i : Nat} {p : List UInt8} (hp : p.length = 64) (hr : otherB s.dk.last.length s.a s.z (i : Int) = true) (hf : ¬ ((s.step.getD i none).isSome = false ∧ s.r ≤ cntO s.step)) : Sto.Ok { s with step := s.step.set i (some p) } := by
  have hi : i < s.step.length := by
    have := of_decide_eq_true hr
    rw [h.slen]; omega
  refine ⟨by show (s.step.set _ _).length = _; rw [List.length_set]; exact h.slen, h.glen, pagesOk_set h.spg hi hp hr, h.gpg, ?_, h.gcnt, h.a9, h.z9, h.reg, h.room, h.r1, h.r32, h.rz⟩
  show cntO (s.step.set i (some p)) ≤ s.r
  rw [cntO_set _ _ _ hi]
  have := h.scnt
  cases e : (s.step.getD i none).isSome with
  | true => rw [if_pos rfl]; exact this
  | false =>
    have : ¬ s.r ≤ cntO s.step := fun g => hf ⟨e, g⟩
    rw [if_neg (by simp)]; omega
theorem sjoin_ok {s : Sto} (h : s.Ok) (hc : stog s ≤ s.r) : (sjoin s).Ok :=
  ⟨List.length_replicate, by show (joinP _ _).length = _; rw [joinP_length]; exact h.glen, pagesOk_no _ _ _ _, pagesOk_join h.gpg h.spg, by show cntO (noPgs _) ≤ _; rw [cntO_no]; exact Nat.zero_le _, hc, h.a9, h.z9, h.reg, h.room, h.r1, h.r32, h.rz⟩
theorem runW_len (cs : List Chg) : ∀ s : Dk.St, (Jn.runW s cs).1.last.length = s.last.length := by
  induction cs with
  | nil => intro s; exact Dk.flush_len s
  | cons c r ih =>
    intro s
    unfold Jn.runW
    split
    · rw [ih, Dk.write_len]
    · exact Dk.write_len s _ _
theorem runs_len (ls : List (List Chg)) : ∀ s : Dk.St, (Jn.runs s ls).1.last.length = s.last.length := by
  induction ls with
  | nil => intro s; rfl
  | cons l r ih =>
    intro s
    unfold Jn.runs
    split
    · rw [ih, runW_len]
    · exact runW_len l s
theorem srun_len (s : Sto) : (srun s).1.last.length = s.dk.last.length := runs_len _ _
theorem scommit_ok {s : Sto} (h : s.Ok) : (scommit s).Ok := by
  refine ⟨by show s.step.length = _; rw [h.slen]; exact (srun_len s).symm, by show s.group.length = _; rw [h.glen]; exact (srun_len s).symm, ?_, ?_, h.scnt, h.gcnt, h.a9, h.z9, by show s.a + s.z ≤ _; unfold scommit; rw [srun_len]; exact h.reg, h.room, h.r1, h.r32, h.rz⟩
  · show pagesOk (srun s).1.last.length _ _ _
    rw [srun_len]; exact h.spg
  · show pagesOk (srun s).1.last.length _ _ _
    rw [srun_len]; exact h.gpg
theorem sclear_ok {s : Sto} (h : s.Ok) {n : Nat} (hn : n = s.dk.last.length) : Sto.Ok { s with group := noPgs n } :=
  ⟨h.slen, by show (noPgs n).length = _; unfold noPgs; rw [List.length_replicate]; exact hn, h.spg, pagesOk_no _ _ _ _, h.scnt, by show cntO (noPgs _) ≤ _; rw [cntO_no]; exact Nat.zero_le _, h.a9, h.z9, h.reg, h.room, h.r1, h.r32, h.rz⟩
theorem ssync_ok {s : Sto} (h : s.Ok) : (ssync s).Ok := by
  unfold ssync
  split
  · exact h
  · split
    · exact h
    · split
      · exact sclear_ok (scommit_ok h) (srun_len s).symm
      · exact scommit_ok h
theorem ssync_fine {s : Sto} (_h : s.Ok) (he : ssyncE s = 0) : s.over = false ∧ cntO (ssync s).group = 0 ∧ (ssync s).over = false ∧ (ssync s).step = s.step ∧ (ssync s).r = s.r := by
  have ho : s.over = false := by
    cases e : s.over with
    | false => rfl
    | true => unfold ssyncE at he; rw [if_pos e] at he; cases he
  have hn : ¬ s.over = true := by rw [ho]; simp
  refine ⟨ho, ?_⟩
  unfold ssyncE at he
  rw [if_neg hn] at he
  unfold ssync
  rw [if_neg hn]
  by_cases c : cntO s.group = 0
  · rw [if_pos c]; exact ⟨c, ho, rfl, rfl⟩
  · rw [if_neg c] at he
    rw [if_neg c, if_pos he]
    refine ⟨cntO_no _, ?_, rfl, rfl⟩
    show ((srun s).2 != 0) = false
    rw [he]; rfl
theorem takesFrom_mk {n a z : Nat} (cs : List Chg) : ∀ (f : Nat → Bool), cs.Pairwise (fun x y => x.no < y.no) → (∀ c ∈ cs, otherB n a z c.no = true ∧ f c.no.toNat = false) → takesFrom n a z f cs = true := by
  induction cs with
  | nil => intro f _ _; rfl
  | cons c r ih =>
    intro f hp hc
    obtain ⟨h1, h2⟩ := hc c (by simp)
    rw [takes_ok h1 h2]
    obtain ⟨p1, p2⟩ := List.pairwise_cons.1 hp
    refine ih _ p2 (fun x hx => ⟨(hc x (by simp [hx])).1, ?_⟩)
    have g1 := of_decide_eq_true h1
    have g2 := of_decide_eq_true (hc x (by simp [hx])).1
    have g3 := p1 x hx
    unfold mark
    rw [(hc x (by simp [hx])).2, Bool.or_false, beq_eq_false_iff_ne]
    omega
theorem chgs_takes {n a z : Nat} {c : Pgs} (h : pagesOk n a z c) : takesB n a z (chgs c) = true := by
  refine takesFrom_mk _ _ (chgs_pw c) (fun x hx => ?_)
  obtain ⟨k, h1, h2⟩ := chgs_mem.1 hx
  exact ⟨by rw [h1]; exact (h k _ h2).2, rfl⟩
theorem chgs_pages {n a z : Nat} {c : Pgs} (h : pagesOk n a z c) : ∀ x ∈ chgs c, x.page.length = 64 := fun x hx => by
  obtain ⟨k, _, h2⟩ := chgs_mem.1 hx
  exact (h k _ h2).1
theorem stog_step {s : Sto} (h : s.Ok) (hg : cntO s.group = 0) : stog s = cntO s.step := by
  unfold stog
  have : joinP s.group s.step = s.step := by
    refine pgs_ext (by rw [joinP_length, h.glen, h.slen]) (fun i hi => ?_)
    rw [joinP_length] at hi
    rw [joinP_at _ _ _ hi, cntO_zero hg, noPgs_at]
    cases s.step.getD i none <;> rfl
  rw [this]
theorem sjoin_sync {s : Sto} (h : s.Ok) (he : ssyncE s = 0) : stog (ssync s) ≤ (ssync s).r := by
  obtain ⟨_, h1, _, h3, h4⟩ := ssync_fine h he
  rw [stog_step (ssync_ok h) h1, h3, h4]
  exact h.scnt
end

namespace Sp
def okB (i : Int) : Bool := decide (0 ≤ i ∧ i < 1060)
def dep (i : Int) : Int := if 0 ≤ i ∧ i < 1060 then (if i < 4 then 0 else if i < 36 then 1 else 2) else 0
def out (i : Int) : Int := if 36 ≤ i ∧ i < 1060 then (i - 36) / 32 else 0
def inn (i : Int) : Int := if 0 ≤ i ∧ i < 1060 then (if i < 4 then i else if i < 36 then i - 4 else (i - 36) % 32) else 0
theorem no_page {i : Int} (h : i < 0 ∨ 1060 ≤ i) : okB i = false ∧ dep i = 0 ∧ out i = 0 ∧ inn i = 0 := by
  refine ⟨?_, ?_, ?_, ?_⟩
  · unfold okB; rw [decide_eq_false_iff_not]; omega
  · unfold dep; rw [if_neg (by omega)]
  · unfold out; rw [if_neg (by omega)]
  · unfold inn; rw [if_neg (by omega)]
theorem page0 {i : Int} (h0 : 0 ≤ i) (h1 : i < 4) : okB i = true ∧ dep i = 0 ∧ out i = 0 ∧ inn i = i := by
  refine ⟨?_, ?_, ?_, ?_⟩
  · unfold okB; rw [decide_eq_true_eq]; omega
  · unfold dep; rw [if_pos (by omega), if_pos h1]
  · unfold out; rw [if_neg (by omega)]
  · unfold inn; rw [if_pos (by omega), if_pos h1]
theorem page1 {i : Int} (h0 : 4 ≤ i) (h1 : i < 36) : okB i = true ∧ dep i = 1 ∧ out i = 0 ∧ inn i = i - 4 := by
  refine ⟨?_, ?_, ?_, ?_⟩
  · unfold okB; rw [decide_eq_true_eq]; omega
  · unfold dep; rw [if_pos (by omega), if_neg (by omega), if_pos h1]
  · unfold out; rw [if_neg (by omega)]
  · unfold inn; rw [if_pos (by omega), if_neg (by omega), if_pos h1]
theorem page2 {i : Int} (h0 : 36 ≤ i) (h1 : i < 1060) : okB i = true ∧ dep i = 2 ∧ out i = (i - 36) / 32 ∧ inn i = (i - 36) % 32 := by
  refine ⟨?_, ?_, ?_, ?_⟩
  · unfold okB; rw [decide_eq_true_eq]; omega
  · unfold dep; rw [if_pos (by omega), if_neg (by omega), if_neg (by omega)]
  · unfold out; rw [if_pos (by omega)]
  · unfold inn; rw [if_pos (by omega), if_neg (by omega), if_neg (by omega)]
theorem kinds (i : Int) : (i < 0 ∨ 1060 ≤ i) ∨ (0 ≤ i ∧ i < 4) ∨ (4 ≤ i ∧ i < 36) ∨ (36 ≤ i ∧ i < 1060) := by omega
def idxB (d o n : Int) : Bool := decide ((d = 0 ∧ o = 0 ∧ 0 ≤ n ∧ n < 4) ∨ (d = 1 ∧ o = 0 ∧ 0 ≤ n ∧ n < 32) ∨ (d = 2 ∧ 0 ≤ o ∧ o < 32 ∧ 0 ≤ n ∧ n < 32))
def idx (d o n : Int) : Int := if idxB d o n = true then (if d = 0 then n else if d = 1 then 4 + n else 36 + o * 32 + n) else 0
structure St where
  a : Bool
  b : Bool
  ls : List Int
def St.none : St := ⟨false, false, []⟩
def St.put (s : St) (k : Int) : St := if k = -2 then { s with a := true } else if k = -1 then { s with b := true } else if s.ls.contains k then s else { s with ls := s.ls ++ [k] }
def leads (d o : Int) : List Int := if d = 1 then [-2] else if d = 2 then [-1, o] else []
def St.puts (s : St) (ks : List Int) : St := ks.foldl St.put s
def St.step (s : St) (i : Int) : St := if okB i = true then s.puts (leads (dep i) (out i)) else s
def run (l : List Int) : St := l.foldl St.step St.none
end Sp
end Go.Proofs.YtmpfcgjjejlhdaaGreat
