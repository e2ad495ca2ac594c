/-
  The contract of a journal's begin.
-/
import Derived.Test.YtppbiohjhnoagaaGreatMjc
namespace Go.Proofs.YtppbiohjhnoagaaGreat
open Go.RowKit
open Dk (zeros zeros_length)
open Hd (Head rightB pageH)
open Jn (Chg quietH liveH)

structure BegI (w : World) (j d l m : Nat) (s : Dk.St) (a z : Nat) (q : Int) (o : Bool) (W : World) : Prop where
  disk : DiskAt W d l m s
  jr : JAt W j d a z q o
  below : Below w.heap.size w W
set_option maxRecDepth 100000 in
theorem BegI.call {w : World} {j d l m : Nat} {s : Dk.St} {a z : Nat} {q : Int} {o : Bool} {W W' : World} (h : BegI w j d l m s a z q o W) (hb : Below W.heap.size W W') : BegI w j d l m s a z q o W' :=
  ⟨h.disk.below hb, h.jr.below hb, h.below.trans (hb.mono h.below.size)⟩
def BgS (w : World) (j d l m : Nat) (s : Dk.St) (a z : Nat) (q : Int) (o : Bool) (p : List UInt8) (st : Option (Nat × Bool)) (W : World) : Prop :=
  BegI w j d l m s a z q o W ∧ match st with
    | none => True
    | some (C, b) => w.heap.size ≤ C ∧ PageAt W C (if b = true then p else zeros)
set_option maxRecDepth 100000 in
theorem BegI.olds {w : World} {j d l m : Nat} {s : Dk.St} {a z : Nat} {q : Int} {o : Bool} {W : World} (h : BegI w j d l m s a z q o W) (hj : j < w.heap.size) (hd : d < w.heap.size ∧ l < w.heap.size ∧ m < w.heap.size) (C : Nat) (hC : w.heap.size ≤ C) (vs : List Value) : BegI w j d l m s a z q o (W.setCells C 0 vs) := by
  have ho : Only [C] W (W.setCells C 0 vs) := Only.setCells C (by simp) _ _ _ (Only.refl _ _)
  exact ⟨h.disk.only ho (by simp; omega) (by simp; omega) (by simp; omega), h.jr.only ho (by simp; omega), below_setCells _ hC _ _ _ h.below⟩
set_option maxRecDepth 100000 in
theorem BgS.call {w : World} {j d l m : Nat} {s : Dk.St} {a z : Nat} {q : Int} {o : Bool} {p : List UInt8} {st : Option (Nat × Bool)} {W W' : World} (k : BgS w j d l m s a z q o p st W) (hb : Below W.heap.size W W') : BgS w j d l m s a z q o p st W' := by
  refine ⟨k.1.call hb, ?_⟩
  match st, k with
  | none, _ => trivial
  | some (C, b), k => exact ⟨k.2.1, k.2.2.below hb k.2.2.lt⟩
set_option maxRecDepth 100000 in
theorem BgS.alloc {w : World} {j d l m : Nat} {s : Dk.St} {a z : Nat} {q : Int} {o : Bool} {p : List UInt8} {W : World} (k : BegI w j d l m s a z q o W) : BgS w j d l m s a z q o p (some (W.heap.size, false)) (W.alloc (.cells zeroCells 38)) :=
  ⟨k.call ((Below.refl _ _).alloc (Nat.le_refl _) _), k.below.size, pageAt_zeros W 38⟩
set_option maxRecDepth 100000 in
theorem BgS.put {w : World} {j d l m : Nat} {s : Dk.St} {a z : Nat} {q : Int} {o : Bool} {p : List UInt8} {C : Nat} {b : Bool} {W : World} (k : BgS w j d l m s a z q o p (some (C, b)) W) (hp : p.length = 64) (hj : j < w.heap.size) (hd : d < w.heap.size ∧ l < w.heap.size ∧ m < w.heap.size) : BgS w j d l m s a z q o p (some (C, true)) (W.setCells C 0 (byteVals p)) := by
  obtain ⟨k1, k2, k3⟩ := k
  exact ⟨k1.olds hj hd C k2 _, k2, k3.put p hp⟩
set_option maxRecDepth 100000 in
theorem gives_store_page {o : Oper} {a : Act} {w : World} {b : Nat} {q p : List UInt8} {R : Value → World → Prop} (k : PageAt w b q) (hp : p.length = 64) (x y : Operand) (ho : o.op = .store 38 x y) (hx : a.eval x = .pointer (some ⟨b, 0, none⟩)) (hy : a.eval y = pageV p)
    (hR : R undef (w.setCells b 0 (byteVals p))) : Gives Tryz.prog (execOp a.eval o) w R := by
  have hs := run_storeVar_mid (P := Tryz.prog) w b 0 38 (byteVals p).toArray (by rw [List.size_toArray, byteVals_length, hp]; exact k.free) (by rw [page_info, List.size_toArray, byteVals_length, hp]) (all_oneCell_toArray (byteVals_one p))
  rw [pageV_def] at hs
  have hrun : (execOp a.eval o).run Tryz.prog w = .ok .skip (w.setCells b 0 (byteVals p)) ∨ (execOp a.eval o).run Tryz.prog w = .ok (.value undef) (w.setCells b 0 (byteVals p)) := by
    unfold execOp
    simp only [ho, hx, hy, Instr.storeAt, Instr.sureAddr, Sem.run_bind, Sem.run_pure, Result.andThen_ok, hs]
    simp
  unfold Gives
  rcases hrun with h | h <;> (rw [h]; exact hR)
set_option maxRecDepth 100000 in
theorem runs_one (s : Dk.St) (l : List Chg) : Jn.runs s [l] = Jn.runW s l := by
  unfold Jn.runs
  split
  · rename_i h
    unfold Jn.runs
    rw [← h]
  · rfl
set_option maxRecDepth 100000 in
theorem runs_ok {s : Dk.St} {l : List Chg} {r : List (List Chg)} (h : (Jn.runW s l).2 = 0) : Jn.runs s (l :: r) = Jn.runs (Jn.runW s l).1 r := by rw [Jn.runs, if_pos h]
set_option maxRecDepth 100000 in
theorem runs_bad {s : Dk.St} {l : List Chg} {r : List (List Chg)} (h : (Jn.runW s l).2 ≠ 0) : Jn.runs s (l :: r) = Jn.runW s l := by rw [Jn.runs, if_neg h]

set_option maxRecDepth 100000 in
set_option maxHeartbeats 4000000 in
theorem begin_quiet {w : World} {j d l m a z : Nat} {q : Int} {o : Bool} {s : Dk.St} (hj : JAt w j d a z q o) (h : DiskAt w d l m s) (hjd : j ∉ [d, l, m]) (ha : a ≤ 900) (hup : s.down = false) (hal : a < s.last.length) (hq : Jn.QuietP (Dk.readP s (a : Int))) (hn : Hd.nextN [Dk.readP s (a : Int)] < 4294967296) :
    Calls Tryz.prog 48 #[.pointer (some ⟨j, 0, none⟩)] w fun e w' => e = .returned (.tuple #[.int .i64 0, .int .i64 (Jn.runs s [[⟨(a : Int), pageH (quietH (Hd.nextN [Dk.readP s (a : Int)]))⟩]]).2]) ∧ DiskAt w' d l m (Jn.runs s [[⟨(a : Int), pageH (quietH (Hd.nextN [Dk.readP s (a : Int)]))⟩]]).1 ∧ JAt w' j d a z (Hd.nextN [Dk.readP s (a : Int)]) o ∧ Only [d, l, m, j] w w' := by
  rw [runs_one]
  have HI : Hid (BegI w j d l m s a z q o w) := Lib.hid ⟨h, hj, Below.refl _ _⟩
  have HJD := Lib.hid hjd
  have HJL := Lib.hid hj.lt
  have HDL : Hid (d < w.heap.size ∧ l < w.heap.size ∧ m < w.heap.size) := Lib.hid ⟨h.dlt, h.llt, h.mlt⟩
  have HPL := Lib.hid (Dk.readP_len h.ok (a : Int))
  have HRD : Hid (∀ W, BegI w j d l m s a z q o W → Calls Tryz.prog 35 #[.pointer (some ⟨d, 0, none⟩), .int .i64 (a : Int)] W fun e w' => e = .returned (.tuple #[pageV (Dk.readP s (a : Int)), .int .i64 0]) ∧ Below W.heap.size W w') := Lib.hid (fun W hW => by
    have := read_any hW.disk (a : Int)
    rw [Dk.reach_mk hup (Dk.has_mk hal)] at this
    exact this)
  clear h hj hjd hup hal
  generalize Dk.readP s (a : Int) = p at HPL HRD hq hn ⊢
  have HN0 := Lib.hid (Hd.nextN_nonneg [p])
  have HDC := Lib.hid (fun (w : World) => decode_any p w HPL.out)
  have HNX : Hid (∀ W A, PageRow W A 1 [p] → Calls Tryz.prog 66 #[.slice A 1 1] W fun e w' => e = .returned (.int .i64 (Hd.nextN [p])) ∧ Below W.heap.size W w') := Lib.hid (fun W A hr => next_any A 1 1 [p] W hr)
  have HQ := Lib.hid hq
  clear hq
  generalize hnn : Hd.nextN [p] = n at HN0 HNX hn ⊢
  clear hnn
  go_enter Tryz.func48, Tryz.ntmps48
  go_wp2_with fail
  refine wp_region_lin (BgS w j d l m s a z q o p) (fun i => i == 14 || i == 15) (fun i => [.pointer (some ⟨j, 0, none⟩), .pointer (some ⟨j, 0, none⟩), .pointer (some ⟨j, 0, none⟩), .pointer (some ⟨j, 0, none⟩), .pointer (some ⟨d, 0, none⟩), .pointer (some ⟨j, 0, none⟩), .pointer (some ⟨j, 0, none⟩), .pointer (some ⟨j, 0, none⟩), .pointer (some ⟨j, 1, none⟩), .int .i64 (a : Int), .tuple #[pageV p, .int .i64 0], .tuple #[pageV p, .int .i64 0], pageV p, .int .i64 0, undef, undef, .int .i64 0].getD i undef) (none) (by kernel_rfl) (by kernel_rfl) (⟨HI.out.call (Below.refl _ _).drew, trivial⟩) ?_
  refine lin_step (i := 0) (d := some 11) (v := .pointer (some ⟨j, 0, none⟩)) rfl rfl (by kernel_rfl) (by kernel_rfl) rfl rfl (ord_value (by kernel_rfl) ?_) ?_
  · intro _ W hS; have c0 := hS.1.jr.c0; have c1 := hS.1.jr.c1; go_simp
  (try simp only [Act.put, List.setIfInBounds_toArray, List.set_cons_zero, List.set_cons_succ])
  refine lin_step (i := 1) (d := some 12) (v := .pointer (some ⟨j, 0, none⟩)) rfl rfl (by kernel_rfl) (by kernel_rfl) rfl rfl (ord_value (by kernel_rfl) ?_) ?_
  · intro _ W hS; have c0 := hS.1.jr.c0; have c1 := hS.1.jr.c1; go_simp
  (try simp only [Act.put, List.setIfInBounds_toArray, List.set_cons_zero, List.set_cons_succ])
  refine lin_step (i := 2) (d := some 13) (v := .pointer (some ⟨j, 0, none⟩)) rfl rfl (by kernel_rfl) (by kernel_rfl) rfl rfl (ord_value (by kernel_rfl) ?_) ?_
  · intro _ W hS; have c0 := hS.1.jr.c0; have c1 := hS.1.jr.c1; go_simp
  (try simp only [Act.put, List.setIfInBounds_toArray, List.set_cons_zero, List.set_cons_succ])
  refine lin_step (i := 3) (d := some 14) (v := .pointer (some ⟨j, 0, none⟩)) rfl rfl (by kernel_rfl) (by kernel_rfl) rfl rfl (ord_value (by kernel_rfl) ?_) ?_
  · intro _ W hS; have c0 := hS.1.jr.c0; have c1 := hS.1.jr.c1; go_simp
  (try simp only [Act.put, List.setIfInBounds_toArray, List.set_cons_zero, List.set_cons_succ])
  refine lin_step (i := 4) (d := some 15) (v := .pointer (some ⟨d, 0, none⟩)) rfl rfl (by kernel_rfl) (by kernel_rfl) rfl rfl (ord_value (by kernel_rfl) ?_) ?_
  · intro _ W hS; have c0 := hS.1.jr.c0; have c1 := hS.1.jr.c1; go_simp
  (try simp only [Act.put, List.setIfInBounds_toArray, List.set_cons_zero, List.set_cons_succ])
  refine lin_step (i := 5) (d := some 16) (v := .pointer (some ⟨j, 0, none⟩)) rfl rfl (by kernel_rfl) (by kernel_rfl) rfl rfl (ord_value (by kernel_rfl) ?_) ?_
  · intro _ W hS; have c0 := hS.1.jr.c0; have c1 := hS.1.jr.c1; go_simp
  (try simp only [Act.put, List.setIfInBounds_toArray, List.set_cons_zero, List.set_cons_succ])
  refine lin_step (i := 6) (d := some 17) (v := .pointer (some ⟨j, 0, none⟩)) rfl rfl (by kernel_rfl) (by kernel_rfl) rfl rfl (ord_value (by kernel_rfl) ?_) ?_
  · intro _ W hS; have c0 := hS.1.jr.c0; have c1 := hS.1.jr.c1; go_simp
  (try simp only [Act.put, List.setIfInBounds_toArray, List.set_cons_zero, List.set_cons_succ])
  refine lin_step (i := 7) (d := some 18) (v := .pointer (some ⟨j, 0, none⟩)) rfl rfl (by kernel_rfl) (by kernel_rfl) rfl rfl (ord_value (by kernel_rfl) ?_) ?_
  · intro _ W hS; have c0 := hS.1.jr.c0; have c1 := hS.1.jr.c1; go_simp
  (try simp only [Act.put, List.setIfInBounds_toArray, List.set_cons_zero, List.set_cons_succ])
  refine lin_step (i := 8) (d := some 19) (v := .pointer (some ⟨j, 1, none⟩)) rfl rfl (by kernel_rfl) (by kernel_rfl) rfl rfl (ord_value (by kernel_rfl) ?_) ?_
  · intro _ W hS; have c0 := hS.1.jr.c0; have c1 := hS.1.jr.c1; go_simp
  (try simp only [Act.put, List.setIfInBounds_toArray, List.set_cons_zero, List.set_cons_succ])
  refine lin_step (i := 9) (d := some 20) (v := .int .i64 (a : Int)) rfl rfl (by kernel_rfl) (by kernel_rfl) rfl rfl (ord_value (by kernel_rfl) ?_) ?_
  · intro _ W hS; have c0 := hS.1.jr.c0; have c1 := hS.1.jr.c1; go_simp
  (try simp only [Act.put, List.setIfInBounds_toArray, List.set_cons_zero, List.set_cons_succ])
  refine lin_step (i := 10) (d := some 21) (v := .tuple #[pageV p, .int .i64 0]) rfl rfl (by kernel_rfl) (by kernel_rfl) rfl rfl (ord_call (f := 35) (args := #[.pointer (some ⟨d, 0, none⟩), .int .i64 (a : Int)]) (by kernel_rfl) ?_ (fun _ _ hS => (HRD.out _ hS.1).mono fun _ _ ⟨he, hb⟩ => ⟨he, BgS.call hS hb⟩)) ?_
  · intro _; go_simp
  (try simp only [Act.put, List.setIfInBounds_toArray, List.set_cons_zero, List.set_cons_succ])
  refine lin_step (i := 11) (d := some 10) (v := .tuple #[pageV p, .int .i64 0]) rfl rfl (by kernel_rfl) (by kernel_rfl) rfl rfl (ord_value (by kernel_rfl) ?_) ?_
  · intro _ W hS; have c0 := hS.1.jr.c0; have c1 := hS.1.jr.c1; go_simp
  (try simp only [Act.put, List.setIfInBounds_toArray, List.set_cons_zero, List.set_cons_succ])
  refine lin_step (i := 12) (d := some 22) (v := pageV p) rfl rfl (by kernel_rfl) (by kernel_rfl) rfl rfl (ord_value (by kernel_rfl) ?_) ?_
  · intro _ W hS; have c0 := hS.1.jr.c0; have c1 := hS.1.jr.c1; go_simp
  (try simp only [Act.put, List.setIfInBounds_toArray, List.set_cons_zero, List.set_cons_succ])
  refine lin_step (i := 13) (d := some 23) (v := .int .i64 0) rfl rfl (by kernel_rfl) (by kernel_rfl) rfl rfl (ord_value (by kernel_rfl) ?_) ?_
  · intro _ W hS; have c0 := hS.1.jr.c0; have c1 := hS.1.jr.c1; go_simp
  (try simp only [Act.put, List.setIfInBounds_toArray, List.set_cons_zero, List.set_cons_succ])
  refine lin_turn (i := 14) (d := some 4) (fun u s => ∃ g, w.heap.size ≤ g ∧ u = .pointer (some ⟨g, 0, none⟩) ∧ s = some (g, false)) rfl rfl (by kernel_rfl) (by kernel_rfl) rfl (by kernel_rfl) (⟨_, _, w.heap.size, Nat.le_refl _, rfl, rfl⟩) (by kernel_rfl) (fun W hS => gives_to (v := .pointer (some ⟨W.heap.size, 0, none⟩)) (w' := W.alloc (.cells zeroCells 38)) (by rw [zeroCells_def]; go_simp) ⟨some (W.heap.size, false), ⟨W.heap.size, hS.1.below.size, rfl, rfl⟩, BgS.alloc hS.1⟩) ?_
  rintro _ _ ⟨C, hC, rfl, rfl⟩
  (try simp only [Act.put, List.setIfInBounds_toArray, List.set_cons_zero, List.set_cons_succ])
  refine lin_turn (i := 15) (d := none) (fun u s => u = undef ∧ s = some (C, true)) rfl rfl (by kernel_rfl) (by kernel_rfl) rfl (by kernel_rfl) (⟨_, _, rfl, rfl⟩) (by kernel_rfl) (fun W hS => gives_store_page hS.2.2 HPL.out (.tmp 4) (.tmp 22) rfl rfl rfl ⟨some (C, true), ⟨rfl, rfl⟩, BgS.put hS HPL.out HJL.out HDL.out⟩) ?_
  rintro _ _ ⟨rfl, rfl⟩
  (try simp only [Act.put])
  refine lin_step (i := 16) (d := some 5) (v := .int .i64 0) rfl rfl (by kernel_rfl) (by kernel_rfl) rfl rfl (ord_value (by kernel_rfl) ?_) ?_
  · intro _ W hS; have c0 := hS.1.jr.c0; have c1 := hS.1.jr.c1; go_simp
  (try simp only [Act.put, List.setIfInBounds_toArray, List.set_cons_zero, List.set_cons_succ])
  refine lin_done (by kernel_rfl) ?_
  intro w3 hS3
  have HI3 := Lib.hid hS3.1
  have HP3 : Hid (PageAt w3 C p) := Lib.hid hS3.2.2
  have HC := Lib.hid hC
  clear hS3 hC HI HRD
  have HLD : Hid (∀ W, BegI w j d l m s a z q o W → Calls Tryz.prog 65 #[.pointer (some ⟨j, 0, none⟩), .agg #[.int .i64 n, .bool false, .int .i64 0, .int .u32 0]] W fun e w' => e = .returned (.int .i64 (Jn.runW s [⟨(a : Int), pageH (quietH n)⟩]).2) ∧ DiskAt w' d l m (Jn.runW s [⟨(a : Int), pageH (quietH n)⟩]).1 ∧ JAt w' j d a z n o ∧ Only [d, l, m, j] W w') := Lib.hid (fun W hW => lead_any hW.jr hW.disk HJD.out ha (quietH n) (Jn.quietH_right HN0.out hn) (Int.le_refl 0) (show (0 : Int) < 4294967296 by omega))
  obtain ⟨hh, wb, hdec, hwb⟩ : ∃ (hh : Head) (wb : Bool), (∀ W, Calls Tryz.prog 64 #[pageV p] W fun e w' => e = .returned (.tuple #[headV hh, .bool wb]) ∧ Below W.heap.size W w') ∧ (wb = false ∨ (wb = true ∧ hh.live = false)) := by
    refine ⟨Hd.decH p, Hd.wholeB p, HDC.out, ?_⟩
    cases hw : Hd.wholeB p with
    | false => exact Or.inl rfl
    | true =>
      right
      refine ⟨rfl, ?_⟩
      unfold Hd.decH
      rw [if_pos hw]
      cases hl : (Hd.readH p).live with
      | false => rfl
      | true => exact absurd ⟨hw, hl⟩ HQ.out
  have HDE := Lib.hid hdec
  clear hdec HDC HQ
  rcases hwb with rfl | ⟨rfl, hlv⟩
  · go_wp2_with (with_reducible refine wpList_load_page HP3.out rfl (.tmp 4) rfl rfl ?_)
    refine (HDE.out _).mono ?_
    rintro e w4 ⟨rfl, hB4⟩
    have HI4 := Lib.hid (HI3.out.call hB4)
    have HP4 := Lib.hid (HP3.out.below hB4 HP3.out.lt)
    clear HI3 HP3 hB4
    go_wp2_with (first
      | ((with_reducible refine wpList_store_newhead headT (h := hh) rfl (.tmp 6) (.tmp 30) rfl rfl ?_ ?_ ?_); (exact rfl); (exact rfl); intro w5 hH hB5 hz5; have HI5 := Lib.hid (HI4.out.call hB5); have HP5 := Lib.hid (HP4.out.below hB5 HP4.out.lt); have g1 := hH.c1; clear HI4 HP4 hH hB5 hz5; generalize w4.heap.size = D at g1 ⊢)
      | (with_reducible refine wpList_load_page HP5.out rfl (.tmp 4) rfl rfl ?_)
      | ((with_reducible refine wpList_buildPage HPL.out rfl (.tmp 40) rfl ?_ ?_); (exact rfl)))
    have HI6 := Lib.hid (HI5.out.call (W' := w5.alloc (.cells (byteVals p).toArray 38)) ((Below.refl _ _).alloc (Nat.le_refl _) _))
    have HR6 := Lib.hid (((rows_one w5 p HPL.out 38).slice (L := []) (by simp)).row (by simp) (rows_one w5 p HPL.out 38).size)
    clear HI5 HP5 g1
    generalize w5.alloc (.cells (byteVals p).toArray 38) = w6 at HI6 HR6 ⊢
    refine (HNX.out _ _ HR6.out).mono ?_
    rintro e w7 ⟨rfl, hB7⟩
    have HI7 := Lib.hid (HI6.out.call hB7)
    clear HI6 HR6 hB7
    go_wp2_with fail
    refine (HLD.out _ HI7.out).mono ?_
    rintro e w8 ⟨rfl, hd8, hj8, ho8⟩
    have HO8 : Hid (Only [d, l, m, j] w w8) := Lib.hid ((Only.below (l := []) (HI7.out.below.mono (Nat.le_refl _))).mono (by simp) |>.trans ho8)
    have HD8 := Lib.hid hd8
    have HJ8 := Lib.hid hj8
    clear HI7 hd8 hj8 ho8
    go_wp2_with fail
    go_ret2
    exact ⟨rfl, HD8.out, HJ8.out, HO8.out⟩
  · go_wp2_with (with_reducible refine wpList_load_page HP3.out rfl (.tmp 4) rfl rfl ?_)
    refine (HDE.out _).mono ?_
    rintro e w4 ⟨rfl, hB4⟩
    have HI4 := Lib.hid (HI3.out.call hB4)
    have HP4 := Lib.hid (HP3.out.below hB4 HP3.out.lt)
    clear HI3 HP3 hB4
    go_wp2_with (first
      | ((with_reducible refine wpList_store_newhead headT (h := hh) rfl (.tmp 6) (.tmp 30) rfl rfl ?_ ?_ ?_); (exact rfl); (exact rfl); intro w5 hH hB5 hz5; have HI5 := Lib.hid (HI4.out.call hB5); have HP5 := Lib.hid (HP4.out.below hB5 HP4.out.lt); have g1 := hH.c1; rw [hlv] at g1; clear HI4 HP4 hH hB5 hz5; generalize w4.heap.size = D at g1 ⊢)
      | (with_reducible refine wpList_load_page HP5.out rfl (.tmp 4) rfl rfl ?_)
      | ((with_reducible refine wpList_buildPage HPL.out rfl (.tmp 40) rfl ?_ ?_); (exact rfl)))
    have HI6 := Lib.hid (HI5.out.call (W' := w5.alloc (.cells (byteVals p).toArray 38)) ((Below.refl _ _).alloc (Nat.le_refl _) _))
    have HR6 := Lib.hid (((rows_one w5 p HPL.out 38).slice (L := []) (by simp)).row (by simp) (rows_one w5 p HPL.out 38).size)
    clear HI5 HP5 g1
    generalize w5.alloc (.cells (byteVals p).toArray 38) = w6 at HI6 HR6 ⊢
    refine (HNX.out _ _ HR6.out).mono ?_
    rintro e w7 ⟨rfl, hB7⟩
    have HI7 := Lib.hid (HI6.out.call hB7)
    clear HI6 HR6 hB7
    go_wp2_with fail
    refine (HLD.out _ HI7.out).mono ?_
    rintro e w8 ⟨rfl, hd8, hj8, ho8⟩
    have HO8 : Hid (Only [d, l, m, j] w w8) := Lib.hid ((Only.below (l := []) (HI7.out.below.mono (Nat.le_refl _))).mono (by simp) |>.trans ho8)
    have HD8 := Lib.hid hd8
    have HJ8 := Lib.hid hj8
    clear HI7 hd8 hj8 ho8
    go_wp2_with fail
    go_ret2
    exact ⟨rfl, HD8.out, HJ8.out, HO8.out⟩
end Go.Proofs.YtppbiohjhnoagaaGreat

/-
  The contract of a journal's begin, where changes count.
-/
namespace Go.Proofs.YtppbiohjhnoagaaGreat
open Go.RowKit
open Dk (zeros zeros_length)
open Hd (Head rightB pageH)
open Jn (Chg quietH liveH)

set_option maxRecDepth 100000 in
theorem may_other {a z n : Nat} {cs : List Chg} (h : Jn.May a z n cs) : ∀ c ∈ cs, otherB n a z c.no = true ∧ c.page.length = 64 := fun c hc => by
  have h1 := Dk.has_yes (h.val c hc).1
  have h2 := h.out c hc
  refine ⟨decide_eq_true ⟨h1.1, h1.2, ?_⟩, (h.val c hc).2⟩
  omega
set_option maxRecDepth 100000 in
set_option maxHeartbeats 4000000 in
theorem begin_live {w : World} {j d l m a z r : Nat} {q : Int} {o : Bool} {s : Dk.St} {cs : List Chg} {x : Int} (hj : JAt w j d a z q o) (h : DiskAt w d l m s) (hjd : j ∉ [d, l, m]) (ha : a ≤ 900) (hz : z ≤ 900) (hroom : RoomIs z r) (hr : r ≤ 900) (hup : s.down = false) (hm : Jn.May a z s.last.length cs) (hcr : cs.length ≤ r)
    (hx0 : 0 ≤ x) (hx1 : x < 4294967290) (hp : Dk.readP s (a : Int) = pageH (liveH x cs)) (hlaid : rdN s (a + 1) (1 + cs.length) = Jn.layN cs) :
    Calls Tryz.prog 48 #[.pointer (some ⟨j, 0, none⟩)] w fun e w' => ∃ (cnt q' : Int), e = .returned (.tuple #[.int .i64 cnt, .int .i64 (Jn.runs s [cs, [⟨(a : Int), pageH (quietH (x + 1))⟩]]).2]) ∧ DiskAt w' d l m (Jn.runs s [cs, [⟨(a : Int), pageH (quietH (x + 1))⟩]]).1 ∧ JAt w' j d a z q' o ∧ ((Jn.runs s [cs, [⟨(a : Int), pageH (quietH (x + 1))⟩]]).2 = 0 → q' = x + 1) ∧ Only [d, l, m, j] w w' := by
  have hal : a < s.last.length := by have := hm.reg; have := hm.fit; omega
  have HI : Hid (BegI w j d l m s a z q o w) := Lib.hid ⟨h, hj, Below.refl _ _⟩
  have HJD := Lib.hid hjd
  have HJL := Lib.hid hj.lt
  have HDL : Hid (d < w.heap.size ∧ l < w.heap.size ∧ m < w.heap.size) := Lib.hid ⟨h.dlt, h.llt, h.mlt⟩
  have HPL := Lib.hid (Dk.readP_len h.ok (a : Int))
  have HRD : Hid (∀ W, BegI w j d l m s a z q o W → Calls Tryz.prog 35 #[.pointer (some ⟨d, 0, none⟩), .int .i64 (a : Int)] W fun e w' => e = .returned (.tuple #[pageV (Dk.readP s (a : Int)), .int .i64 0]) ∧ Below W.heap.size W w') := Lib.hid (fun W hW => by
    have := read_any hW.disk (a : Int)
    rw [Dk.reach_mk hup (Dk.has_mk hal)] at this
    exact this)
  have hsb := Jn.sumN_bd (Jn.layN cs)
  have hrt : rightB (liveH x cs) = true := Jn.live_right hx0 (by omega) hm.pos (by have := hm.few; omega)
  have HDE : Hid (∀ W, Calls Tryz.prog 64 #[pageV (Dk.readP s (a : Int))] W fun e w' => e = .returned (.tuple #[headV (liveH x cs), .bool true]) ∧ Below W.heap.size W w') := Lib.hid (fun W => by
    have hw := Hd.whole_page (liveH x cs) hrt hsb.1 hsb.2
    have := decode_yes (pageH (liveH x cs)) W (Hd.pageH_length _) hw
    rw [Hd.read_page _ hrt hsb.1 hsb.2] at this
    rw [hp]
    exact this)
  have HCH : Hid (∀ W, DiskAt W d l m s → Calls Tryz.prog 67 #[regV d a z, headV (liveH x cs)] W fun e w' => ∃ cb, e = .returned (.tuple #[.slice (some ⟨cb, 0, none⟩) cs.length cs.length, .int .i64 0]) ∧ ChTab w' cb cs ∧ W.heap.size ≤ cb ∧ cb < w'.heap.size ∧ Below W.heap.size W w') := Lib.hid (fun W hW => by
    have e : Jn.outN (rdN s (a + 1) (1 + cs.length)) cs.length = cs := by rw [hlaid]; exact Jn.out_lay cs hm.num hm.few
    have := changes_yes hW a z r cs.length hroom ha hz hr (liveH x cs) rfl hm.pos hm.few hcr hup (by have := hm.reg; have := hm.fit; omega) (by rw [hlaid]; rfl) (by rw [e]; exact may_other hm)
    rw [e] at this
    exact this)
  have HPG : Hid (∀ c ∈ cs, c.page.length = 64) := Lib.hid (fun c hc => (hm.val c hc).2)
  have HFW := Lib.hid hm.few
  have es : (liveH x cs).seq = x := rfl
  have el : (liveH x cs).live = true := rfl
  clear h hj hjd hup hal hp hlaid hroom hsb hrt hm
  generalize liveH x cs = hh at HDE HCH es el
  generalize Dk.readP s (a : Int) = p at HPL HRD HDE ⊢
  obtain ⟨k, hk⟩ : ∃ k, cs.length = k := ⟨_, rfl⟩
  have HK := Lib.hid hk
  rw [hk] at HCH HFW hcr
  clear hk
  have hk32 := HFW.out
  go_enter Tryz.func48, Tryz.ntmps48
  go_wp2_with fail
  refine wp_region_lin (BgS w j d l m s a z q o p) (fun i => i == 14 || i == 15) (fun i => [.pointer (some ⟨j, 0, none⟩), .pointer (some ⟨j, 0, none⟩), .pointer (some ⟨j, 0, none⟩), .pointer (some ⟨j, 0, none⟩), .pointer (some ⟨d, 0, none⟩), .pointer (some ⟨j, 0, none⟩), .pointer (some ⟨j, 0, none⟩), .pointer (some ⟨j, 0, none⟩), .pointer (some ⟨j, 1, none⟩), .int .i64 (a : Int), .tuple #[pageV p, .int .i64 0], .tuple #[pageV p, .int .i64 0], pageV p, .int .i64 0, undef, undef, .int .i64 0].getD i undef) (none) (by kernel_rfl) (by kernel_rfl) (⟨HI.out.call (Below.refl _ _).drew, trivial⟩) ?_
  refine lin_step (i := 0) (d := some 11) (v := .pointer (some ⟨j, 0, none⟩)) rfl rfl (by kernel_rfl) (by kernel_rfl) rfl rfl (ord_value (by kernel_rfl) ?_) ?_
  · intro _ W hS; have c0 := hS.1.jr.c0; have c1 := hS.1.jr.c1; go_simp
  (try simp only [Act.put, List.setIfInBounds_toArray, List.set_cons_zero, List.set_cons_succ])
  refine lin_step (i := 1) (d := some 12) (v := .pointer (some ⟨j, 0, none⟩)) rfl rfl (by kernel_rfl) (by kernel_rfl) rfl rfl (ord_value (by kernel_rfl) ?_) ?_
  · intro _ W hS; have c0 := hS.1.jr.c0; have c1 := hS.1.jr.c1; go_simp
  (try simp only [Act.put, List.setIfInBounds_toArray, List.set_cons_zero, List.set_cons_succ])
  refine lin_step (i := 2) (d := some 13) (v := .pointer (some ⟨j, 0, none⟩)) rfl rfl (by kernel_rfl) (by kernel_rfl) rfl rfl (ord_value (by kernel_rfl) ?_) ?_
  · intro _ W hS; have c0 := hS.1.jr.c0; have c1 := hS.1.jr.c1; go_simp
  (try simp only [Act.put, List.setIfInBounds_toArray, List.set_cons_zero, List.set_cons_succ])
  refine lin_step (i := 3) (d := some 14) (v := .pointer (some ⟨j, 0, none⟩)) rfl rfl (by kernel_rfl) (by kernel_rfl) rfl rfl (ord_value (by kernel_rfl) ?_) ?_
  · intro _ W hS; have c0 := hS.1.jr.c0; have c1 := hS.1.jr.c1; go_simp
  (try simp only [Act.put, List.setIfInBounds_toArray, List.set_cons_zero, List.set_cons_succ])
  refine lin_step (i := 4) (d := some 15) (v := .pointer (some ⟨d, 0, none⟩)) rfl rfl (by kernel_rfl) (by kernel_rfl) rfl rfl (ord_value (by kernel_rfl) ?_) ?_
  · intro _ W hS; have c0 := hS.1.jr.c0; have c1 := hS.1.jr.c1; go_simp
  (try simp only [Act.put, List.setIfInBounds_toArray, List.set_cons_zero, List.set_cons_succ])
  refine lin_step (i := 5) (d := some 16) (v := .pointer (some ⟨j, 0, none⟩)) rfl rfl (by kernel_rfl) (by kernel_rfl) rfl rfl (ord_value (by kernel_rfl) ?_) ?_
  · intro _ W hS; have c0 := hS.1.jr.c0; have c1 := hS.1.jr.c1; go_simp
  (try simp only [Act.put, List.setIfInBounds_toArray, List.set_cons_zero, List.set_cons_succ])
  refine lin_step (i := 6) (d := some 17) (v := .pointer (some ⟨j, 0, none⟩)) rfl rfl (by kernel_rfl) (by kernel_rfl) rfl rfl (ord_value (by kernel_rfl) ?_) ?_
  · intro _ W hS; have c0 := hS.1.jr.c0; have c1 := hS.1.jr.c1; go_simp
  (try simp only [Act.put, List.setIfInBounds_toArray, List.set_cons_zero, List.set_cons_succ])
  refine lin_step (i := 7) (d := some 18) (v := .pointer (some ⟨j, 0, none⟩)) rfl rfl (by kernel_rfl) (by kernel_rfl) rfl rfl (ord_value (by kernel_rfl) ?_) ?_
  · intro _ W hS; have c0 := hS.1.jr.c0; have c1 := hS.1.jr.c1; go_simp
  (try simp only [Act.put, List.setIfInBounds_toArray, List.set_cons_zero, List.set_cons_succ])
  refine lin_step (i := 8) (d := some 19) (v := .pointer (some ⟨j, 1, none⟩)) rfl rfl (by kernel_rfl) (by kernel_rfl) rfl rfl (ord_value (by kernel_rfl) ?_) ?_
  · intro _ W hS; have c0 := hS.1.jr.c0; have c1 := hS.1.jr.c1; go_simp
  (try simp only [Act.put, List.setIfInBounds_toArray, List.set_cons_zero, List.set_cons_succ])
  refine lin_step (i := 9) (d := some 20) (v := .int .i64 (a : Int)) rfl rfl (by kernel_rfl) (by kernel_rfl) rfl rfl (ord_value (by kernel_rfl) ?_) ?_
  · intro _ W hS; have c0 := hS.1.jr.c0; have c1 := hS.1.jr.c1; go_simp
  (try simp only [Act.put, List.setIfInBounds_toArray, List.set_cons_zero, List.set_cons_succ])
  refine lin_step (i := 10) (d := some 21) (v := .tuple #[pageV p, .int .i64 0]) rfl rfl (by kernel_rfl) (by kernel_rfl) rfl rfl (ord_call (f := 35) (args := #[.pointer (some ⟨d, 0, none⟩), .int .i64 (a : Int)]) (by kernel_rfl) ?_ (fun _ _ hS => (HRD.out _ hS.1).mono fun _ _ ⟨he, hb⟩ => ⟨he, BgS.call hS hb⟩)) ?_
  · intro _; go_simp
  (try simp only [Act.put, List.setIfInBounds_toArray, List.set_cons_zero, List.set_cons_succ])
  refine lin_step (i := 11) (d := some 10) (v := .tuple #[pageV p, .int .i64 0]) rfl rfl (by kernel_rfl) (by kernel_rfl) rfl rfl (ord_value (by kernel_rfl) ?_) ?_
  · intro _ W hS; have c0 := hS.1.jr.c0; have c1 := hS.1.jr.c1; go_simp
  (try simp only [Act.put, List.setIfInBounds_toArray, List.set_cons_zero, List.set_cons_succ])
  refine lin_step (i := 12) (d := some 22) (v := pageV p) rfl rfl (by kernel_rfl) (by kernel_rfl) rfl rfl (ord_value (by kernel_rfl) ?_) ?_
  · intro _ W hS; have c0 := hS.1.jr.c0; have c1 := hS.1.jr.c1; go_simp
  (try simp only [Act.put, List.setIfInBounds_toArray, List.set_cons_zero, List.set_cons_succ])
  refine lin_step (i := 13) (d := some 23) (v := .int .i64 0) rfl rfl (by kernel_rfl) (by kernel_rfl) rfl rfl (ord_value (by kernel_rfl) ?_) ?_
  · intro _ W hS; have c0 := hS.1.jr.c0; have c1 := hS.1.jr.c1; go_simp
  (try simp only [Act.put, List.setIfInBounds_toArray, List.set_cons_zero, List.set_cons_succ])
  refine lin_turn (i := 14) (d := some 4) (fun u s => ∃ g, w.heap.size ≤ g ∧ u = .pointer (some ⟨g, 0, none⟩) ∧ s = some (g, false)) rfl rfl (by kernel_rfl) (by kernel_rfl) rfl (by kernel_rfl) (⟨_, _, w.heap.size, Nat.le_refl _, rfl, rfl⟩) (by kernel_rfl) (fun W hS => gives_to (v := .pointer (some ⟨W.heap.size, 0, none⟩)) (w' := W.alloc (.cells zeroCells 38)) (by rw [zeroCells_def]; go_simp) ⟨some (W.heap.size, false), ⟨W.heap.size, hS.1.below.size, rfl, rfl⟩, BgS.alloc hS.1⟩) ?_
  rintro _ _ ⟨C, hC, rfl, rfl⟩
  (try simp only [Act.put, List.setIfInBounds_toArray, List.set_cons_zero, List.set_cons_succ])
  refine lin_turn (i := 15) (d := none) (fun u s => u = undef ∧ s = some (C, true)) rfl rfl (by kernel_rfl) (by kernel_rfl) rfl (by kernel_rfl) (⟨_, _, rfl, rfl⟩) (by kernel_rfl) (fun W hS => gives_store_page hS.2.2 HPL.out (.tmp 4) (.tmp 22) rfl rfl rfl ⟨some (C, true), ⟨rfl, rfl⟩, BgS.put hS HPL.out HJL.out HDL.out⟩) ?_
  rintro _ _ ⟨rfl, rfl⟩
  (try simp only [Act.put])
  refine lin_step (i := 16) (d := some 5) (v := .int .i64 0) rfl rfl (by kernel_rfl) (by kernel_rfl) rfl rfl (ord_value (by kernel_rfl) ?_) ?_
  · intro _ W hS; have c0 := hS.1.jr.c0; have c1 := hS.1.jr.c1; go_simp
  (try simp only [Act.put, List.setIfInBounds_toArray, List.set_cons_zero, List.set_cons_succ])
  refine lin_done (by kernel_rfl) ?_
  intro w3 hS3
  have HI3 := Lib.hid hS3.1
  have HP3 : Hid (PageAt w3 C p) := Lib.hid hS3.2.2
  have HC := Lib.hid hC
  clear hS3 hC HI HRD
  go_wp2_with (with_reducible refine wpList_load_page HP3.out rfl (.tmp 4) rfl rfl ?_)
  refine (HDE.out _).mono ?_
  rintro e w4 ⟨rfl, hB4⟩
  have HI4 := Lib.hid (HI3.out.call hB4)
  have HP4 := Lib.hid (HP3.out.below hB4 HP3.out.lt)
  clear HI3 HP3 hB4
  go_wp2_with (first
    | ((with_reducible refine wpList_store_newhead headT (h := hh) rfl (.tmp 6) (.tmp 30) rfl rfl ?_ ?_ ?_); (exact rfl); (exact rfl); intro w5 hH hB5 hz5; have HI5 := Lib.hid (HI4.out.call hB5); have HP5 := Lib.hid (HP4.out.below hB5 HP4.out.lt); have HH5 := Lib.hid hH; have HD0 : Hid (w.heap.size ≤ w4.heap.size) := Lib.hid HI4.out.below.size; have g1 := hH.c1; rw [el] at g1; clear HI4 HP4 hH hB5 hz5; generalize w4.heap.size = D at g1 HH5 HD0 ⊢))
  clear g1 el
  refine wp_region_noPanic ?_
  refine wp_region_held_drew (S := fun W => JAt W j d a z q o ∧ HeadAt W D hh) (by kernel_rfl) ⟨HI5.out.jr.below (Below.refl _ _).drew, HH5.out.drew⟩ (fun hHeld => ?_)
  have HI6 := Lib.hid (HI5.out.call (Below.refl _ _).drew)
  have HH6 := Lib.hid HH5.out.drew
  clear HI5 HH5 HP5
  generalize w5.drew = w6 at HI6 HH6 hHeld ⊢
  refine take_at (i := 0) (d := some 46) (v := .pointer (some ⟨j, 0, none⟩)) rfl rfl (by kernel_rfl) (by kernel_rfl) (by kernel_rfl) (fun _ _ _ h => h) (Or.inl ⟨by kernel_rfl, ?_⟩) hHeld ?_
  · intro w hSw; go_simp
  (try simp only [Act.put, List.setIfInBounds_toArray, List.set_cons_zero, List.set_cons_succ])
  refine take_at (i := 1) (d := some 47) (v := .pointer (some ⟨j, 0, none⟩)) rfl rfl (by kernel_rfl) (by kernel_rfl) (by kernel_rfl) (fun _ _ _ h => h) (Or.inl ⟨by kernel_rfl, ?_⟩) hHeld ?_
  · intro w hSw; go_simp
  (try simp only [Act.put, List.setIfInBounds_toArray, List.set_cons_zero, List.set_cons_succ])
  refine take_at (i := 2) (d := some 48) (v := .pointer (some ⟨j, 0, none⟩)) rfl rfl (by kernel_rfl) (by kernel_rfl) (by kernel_rfl) (fun _ _ _ h => h) (Or.inl ⟨by kernel_rfl, ?_⟩) hHeld ?_
  · intro w hSw; go_simp
  (try simp only [Act.put, List.setIfInBounds_toArray, List.set_cons_zero, List.set_cons_succ])
  refine take_at (i := 3) (d := some 49) (v := regV d a z) rfl rfl (by kernel_rfl) (by kernel_rfl) (by kernel_rfl) (fun _ _ _ h => h) (yields_reg (by kernel_rfl) (.tmp 48) rfl rfl (fun _ hSw => hSw.1.reg)) hHeld ?_
  (try simp only [Act.put, List.setIfInBounds_toArray, List.set_cons_zero, List.set_cons_succ])
  refine take_at (i := 4) (d := some 50) (v := headV hh) rfl rfl (by kernel_rfl) (by kernel_rfl) (by kernel_rfl) (fun _ _ _ h => h) (yields_head headT (by kernel_rfl) (.tmp 6) rfl rfl (fun _ hSw => hSw.2)) hHeld ?_
  (try simp only [Act.put, List.setIfInBounds_toArray, List.set_cons_zero, List.set_cons_succ])
  refine wpAnyH_ready (rs := [5]) (by kernel_rfl) (by simp) ?_
  refine AllReadyH.cons rfl (fun K hK => ?_) AllReadyH.nil
  go_simp
  (go_at_call 67; refine (HCH.out _ HI6.out.disk).mono ?_; rintro e w7 ⟨cb, rfl, hc7, hcb, hlt7, hB7⟩; have HI7 := Lib.hid (HI6.out.call hB7); have HH7 := Lib.hid (HH6.out.below hB7 HH6.out.lt); have HC7 := Lib.hid hc7; have HLT7 := Lib.hid hlt7; have HCB : Hid (w.heap.size ≤ cb) := Lib.hid (Nat.le_trans HI6.out.below.size hcb); clear hc7 hcb hlt7 hB7)
  (try go_wp2_with fail)
  refine hK.out _ _ ⟨HI7.out.jr, HH7.out⟩ (fun hHeld => ?_)
  clear hK K
  (try simp only [Act.put, List.setIfInBounds_toArray, List.set_cons_zero, List.set_cons_succ])
  refine take_at (i := 6) (d := some 45) (v := .tuple #[.slice (some ⟨cb, 0, none⟩) k k, .int .i64 0]) rfl rfl (by kernel_rfl) (by kernel_rfl) (by kernel_rfl) (fun _ _ _ h => h) (Or.inl ⟨by kernel_rfl, ?_⟩) hHeld ?_
  · intro w hSw; go_simp
  (try simp only [Act.put, List.setIfInBounds_toArray, List.set_cons_zero, List.set_cons_succ])
  refine take_at (i := 7) (d := some 52) (v := .slice (some ⟨cb, 0, none⟩) k k) rfl rfl (by kernel_rfl) (by kernel_rfl) (by kernel_rfl) (fun _ _ _ h => h) (Or.inl ⟨by kernel_rfl, ?_⟩) hHeld ?_
  · intro w hSw; go_simp
  (try simp only [Act.put, List.setIfInBounds_toArray, List.set_cons_zero, List.set_cons_succ])
  refine take_at (i := 8) (d := some 53) (v := .int .i64 0) rfl rfl (by kernel_rfl) (by kernel_rfl) (by kernel_rfl) (fun _ _ _ h => h) (Or.inl ⟨by kernel_rfl, ?_⟩) hHeld ?_
  · intro w hSw; go_simp
  (try simp only [Act.put, List.setIfInBounds_toArray, List.set_cons_zero, List.set_cons_succ])
  refine take_at (i := 9) (d := some 8) (v := .slice (some ⟨cb, 0, none⟩) k k) rfl rfl (by kernel_rfl) (by kernel_rfl) (by kernel_rfl) (fun _ _ _ h => h) (Or.inl ⟨by kernel_rfl, ?_⟩) hHeld ?_
  · intro w hSw; go_simp
  (try simp only [Act.put, List.setIfInBounds_toArray, List.set_cons_zero, List.set_cons_succ])
  refine take_at (i := 10) (d := some 5) (v := .int .i64 0) rfl rfl (by kernel_rfl) (by kernel_rfl) (by kernel_rfl) (fun _ _ _ h => h) (Or.inl ⟨by kernel_rfl, ?_⟩) hHeld ?_
  · intro w hSw; go_simp
  (try simp only [Act.put, List.setIfInBounds_toArray, List.set_cons_zero, List.set_cons_succ])
  refine wpAnyH_done (by kernel_rfl) ?_ _
  refine NoPanic.normal ?_
  have HAP : Hid (Calls Tryz.prog 68 #[regV d a z, .slice (some ⟨cb, 0, none⟩) k k] w7 fun e w' => e = .returned (.int .i64 (Jn.runW s cs).2) ∧ DiskAt w' d l m (Jn.runW s cs).1 ∧ Only [d, l, m] w7 w') := Lib.hid (by
    have := apply_any HI7.out.disk a z (some ⟨cb, 0, none⟩) k cs (HC7.out.slice HLT7.out (by have := HDL.out; have := HCB.out; simp; omega)) HPG.out (by rw [HK.out]; omega)
    rw [HK.out] at this
    exact this)
  go_wp2_with (with_reducible refine wpList_load_reg HI7.out.jr.reg rfl (.tmp 59) rfl rfl ?_)
  refine HAP.out.mono ?_
  rintro e w8 ⟨rfl, hd8, ho8⟩
  have HD8 := Lib.hid hd8
  have HJ8 := Lib.hid (HI7.out.jr.only ho8 HJD.out)
  have HH8 : Hid (HeadAt w8 D hh) := Lib.hid (RowAt.block HH7.out (ho8.block D HH7.out.lt (by have := HDL.out; have := HD0.out; simp; omega)))
  have HO8 : Hid (Only [d, l, m, j] w w8) := Lib.hid ((Only.below (l := [d, l, m, j]) HI7.out.below).trans (ho8.mono (by simp)))
  clear hd8 ho8 HI7 HH7 HC7 HLT7 HAP hHeld
  by_cases hE : (Jn.runW s cs).2 = 0
  · have HLD : Hid (Calls Tryz.prog 65 #[.pointer (some ⟨j, 0, none⟩), .agg #[.int .i64 (x + 1), .bool false, .int .i64 0, .int .u32 0]] w8 fun e w' => e = .returned (.int .i64 (Jn.runW (Jn.runW s cs).1 [⟨(a : Int), pageH (quietH (x + 1))⟩]).2) ∧ DiskAt w' d l m (Jn.runW (Jn.runW s cs).1 [⟨(a : Int), pageH (quietH (x + 1))⟩]).1 ∧ JAt w' j d a z (x + 1) o ∧ Only [d, l, m, j] w8 w') := Lib.hid (lead_any HJ8.out HD8.out HJD.out ha (quietH (x + 1)) (Jn.quietH_right (by omega) (by omega)) (Int.le_refl 0) (show (0 : Int) < 4294967296 by omega))
    have HRU : Hid (Jn.runs s [cs, [⟨(a : Int), pageH (quietH (x + 1))⟩]] = Jn.runW (Jn.runW s cs).1 [⟨(a : Int), pageH (quietH (x + 1))⟩]) := Lib.hid (by rw [runs_ok hE, runs_one])
    rw [hE]
    have g0 := HH8.out.c0
    rw [es] at g0
    clear hE
    go_wp2_with fail
    refine HLD.out.mono ?_
    rintro e w9 ⟨rfl, hd9, hj9, ho9⟩
    have HD9 := Lib.hid hd9
    have HJ9 := Lib.hid hj9
    have HO9 := Lib.hid (HO8.out.trans ho9)
    clear hd9 hj9 ho9 HLD HD8 HJ8 HO8 g0
    go_wp2_with fail
    go_ret2
    refine ⟨(k : Int), x + 1, ?_, ?_, HJ9.out, fun _ => rfl, HO9.out⟩
    · rw [HRU.out]; rfl
    · rw [HRU.out]; exact HD9.out
  · have HRU : Hid (Jn.runs s [cs, [⟨(a : Int), pageH (quietH (x + 1))⟩]] = Jn.runW s cs) := Lib.hid (runs_bad hE)
    have HNE := Lib.hid hE
    have hne2 : ((Jn.runW s cs).2 == 0) = false := by simpa using hE
    have hne3 : ((Jn.runW s cs).2 != 0) = true := by simpa using hE
    clear hE
    go_wp2_with fail
    go_ret2
    refine ⟨0, q, ?_, ?_, HJ8.out, fun e => absurd (by rw [HRU.out] at e; exact e) HNE.out, HO8.out⟩
    · rw [HRU.out]; rfl
    · rw [HRU.out]; exact HD8.out
end Go.Proofs.YtppbiohjhnoagaaGreat

/-
  The contract of journal's Open, over that of begin.
-/
namespace Go.Proofs.YtppbiohjhnoagaaGreat
open Go.RowKit
open Dk (zeros zeros_length)
open Hd (Head rightB pageH)
open Jn (Chg quietH liveH)

set_option maxRecDepth 100000 in
theorem Only.drop {L L' : List Nat} {w w1 w2 : World} (h1 : Only L w w1) (h2 : Only L' w1 w2) (hL : ∀ x ∈ L', x ∈ L ∨ w.heap.size ≤ x) : Only L w w2 :=
  ⟨h2.os.trans h1.os, h2.tape.trans h1.tape, h2.output.trans h1.output, Nat.le_trans h1.size h2.size, fun k hk hn => (h2.block k (Nat.lt_of_lt_of_le hk h1.size) (fun e => by
    rcases hL k e with g | g
    · exact hn g
    · omega)).trans (h1.block k hk hn)⟩
set_option maxRecDepth 100000 in
theorem jAt_new (w : World) (d a z : Nat) (t : TypeId) : JAt (w.alloc (.cells (jVals d a z 0 false).toArray t)) w.heap.size d a z 0 false := ⟨rowAt_new w _ t⟩
/-- what an Open leaves -/
def Opened (w : World) (d l m a z : Nat) (R : Dk.St × Int) (P : Int → Int → Prop) (e : Ending) (w' : World) : Prop :=
  DiskAt w' d l m R.1 ∧ Only [d, l, m] w w' ∧
  ((R.2 = 0 ∧ ∃ j cnt q, e = .returned (.tuple #[.pointer (some ⟨j, 0, none⟩), .int .i64 cnt, .int .i64 0]) ∧ JAt w' j d a z q false ∧ P cnt q ∧ w.heap.size ≤ j) ∨
   (R.2 ≠ 0 ∧ e = .returned (.tuple #[.pointer none, .int .i64 0, .int .i64 R.2])))
set_option maxRecDepth 100000 in
set_option maxHeartbeats 4000000 in
theorem open_with {w : World} {d l m a z r : Nat} {s : Dk.St} (h : DiskAt w d l m s) (ha : a ≤ 900) (hz : z ≤ 900) (hroom : RoomIs z r) (hr : 1 ≤ r) (hup : s.down = false) (hreg : a + z ≤ s.last.length) (R : Dk.St × Int) (P : Int → Int → Prop)
    (hb : ∀ W j, JAt W j d a z 0 false → DiskAt W d l m s → j ∉ [d, l, m] → Calls Tryz.prog 48 #[.pointer (some ⟨j, 0, none⟩)] W fun e w' => ∃ (cnt q : Int), e = .returned (.tuple #[.int .i64 cnt, .int .i64 R.2]) ∧ DiskAt w' d l m R.1 ∧ JAt w' j d a z q false ∧ P cnt q ∧ Only [d, l, m, j] W w') :
    Calls Tryz.prog 27 #[.pointer (some ⟨d, 0, none⟩), .int .i64 (a : Int), .int .i64 (z : Int)] w (Opened w d l m a z R P) := by
  have HDN := Lib.hid (down_any h)
  rw [hup] at HDN
  have HRM : Hid (∀ w, Calls Tryz.prog 46 #[.int .i64 (z : Int)] w fun e w' => e = .returned (.int .i64 (r : Int)) ∧ w = w') := Lib.hid hroom
  have HPG := Lib.hid (pages_any h)
  have HBG := Lib.hid (hb _ _ (jAt_new w d a z 94) (h.alloc _) (by have := h.dlt; have := h.llt; have := h.mlt; simp; omega))
  have HLT : Hid (d < w.heap.size ∧ l < w.heap.size ∧ m < w.heap.size) := Lib.hid ⟨h.dlt, h.llt, h.mlt⟩
  have hsm := h.ok.small
  clear h hb hroom hup
  generalize s.last.length = n at HPG hreg hsm
  have hr1 : ((r : Int) == 0) = false := by rw [beq_eq_false_iff_ne]; omega
  have hr2 : ¬ ((a : Int) < 0) := by omega
  have hr3 : ¬ ((n : Int) - (z : Int) < (a : Int)) := by omega
  have HO1 : Hid (Only [d, l, m] w (w.alloc (.cells (jVals d a z 0 false).toArray 94))) := Lib.hid ((Only.refl _ _).alloc _)
  unfold jVals at HBG HO1
  go_enter Tryz.func27, Tryz.ntmps27
  go_wp2_with fail
  refine HDN.out.mono ?_
  rintro e w' ⟨rfl, rfl⟩
  go_wp2_with fail
  refine (HRM.out _).mono ?_
  rintro e w' ⟨rfl, rfl⟩
  go_wp2_with fail
  refine HPG.out.mono ?_
  rintro e w' ⟨rfl, rfl⟩
  clear HDN HRM HPG
  go_wp2_with fail
  refine HBG.out.mono ?_
  rintro e w2 ⟨cnt, q, rfl, hd2, hj2, hP2, ho2⟩
  have HD2 := Lib.hid hd2
  have HJ2 := Lib.hid hj2
  have HP2 := Lib.hid hP2
  have HO2 : Hid (Only [d, l, m] w w2) := Lib.hid (HO1.out.drop ho2 (by intro x hx; simp at hx ⊢; omega))
  clear hd2 hj2 hP2 ho2 HBG HO1 hr1 hr2 hr3
  by_cases hE : R.2 = 0
  · have HE := Lib.hid hE
    rw [hE]
    clear hE
    go_wp2_with fail
    go_ret3
    exact ⟨HD2.out, HO2.out, Or.inl ⟨HE.out, _, _, _, rfl, HJ2.out, HP2.out, Nat.le_refl _⟩⟩
  · have HE := Lib.hid hE
    have hne2 : (R.2 == 0) = false := by simpa using hE
    have hne3 : (R.2 != 0) = true := by simpa using hE
    clear hE
    go_wp2_with fail
    go_ret3
    exact ⟨HD2.out, HO2.out, Or.inr ⟨HE.out, rfl⟩⟩
end Go.Proofs.YtppbiohjhnoagaaGreat
