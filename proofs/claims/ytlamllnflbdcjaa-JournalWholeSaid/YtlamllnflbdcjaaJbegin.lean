/-
  The contract of a journal's begin.
-/
import Derived.Test.YtlamllnflbdcjaaJlead
namespace Go.Proofs.Ytlamllnflbdcjaa
open Go.RowKit
open Dk (zeros zeros_length)
open Hd (Head rightB pageH)
open Jn (Chg quietH liveH)

structure BegI (w : World) (j d l m : Nat) (s : Dk.St) (a z : Nat) (q : Int) (o : Bool) (W : World) : Prop where
  disk : DiskAt W d l m s
  jr : JAt W j d a z q o
  below : Below w.heap.size w W
theorem BegI.call {w : World} {j d l m : Nat} {s : Dk.St} {a z : Nat} {q : Int} {o : Bool} {W W' : World} (h : BegI w j d l m s a z q o W) (hb : Below W.heap.size W W') : BegI w j d l m s a z q o W' :=
  ⟨h.disk.below hb, h.jr.below hb, h.below.trans (hb.mono h.below.size)⟩
def BgS (w : World) (j d l m : Nat) (s : Dk.St) (a z : Nat) (q : Int) (o : Bool) (p : List UInt8) (st : Option (Nat × Bool)) (W : World) : Prop :=
  BegI w j d l m s a z q o W ∧ match st with
    | none => True
    | some (C, b) => w.heap.size ≤ C ∧ PageAt W C (if b = true then p else zeros)
theorem BegI.olds {w : World} {j d l m : Nat} {s : Dk.St} {a z : Nat} {q : Int} {o : Bool} {W : World} (h : BegI w j d l m s a z q o W) (hj : j < w.heap.size) (hd : d < w.heap.size ∧ l < w.heap.size ∧ m < w.heap.size) (C : Nat) (hC : w.heap.size ≤ C) (vs : List Value) : BegI w j d l m s a z q o (W.setCells C 0 vs) := by
  have ho : Only [C] W (W.setCells C 0 vs) := Only.setCells C (by simp) _ _ _ (Only.refl _ _)
  exact ⟨h.disk.only ho (by simp; omega) (by simp; omega) (by simp; omega), h.jr.only ho (by simp; omega), below_setCells _ hC _ _ _ h.below⟩
theorem BgS.call {w : World} {j d l m : Nat} {s : Dk.St} {a z : Nat} {q : Int} {o : Bool} {p : List UInt8} {st : Option (Nat × Bool)} {W W' : World} (k : BgS w j d l m s a z q o p st W) (hb : Below W.heap.size W W') : BgS w j d l m s a z q o p st W' := by
  refine ⟨k.1.call hb, ?_⟩
  match st, k with
  | none, _ => trivial
  | some (C, b), k => exact ⟨k.2.1, k.2.2.below hb k.2.2.lt⟩
theorem BgS.alloc {w : World} {j d l m : Nat} {s : Dk.St} {a z : Nat} {q : Int} {o : Bool} {p : List UInt8} {W : World} (k : BegI w j d l m s a z q o W) : BgS w j d l m s a z q o p (some (W.heap.size, false)) (W.alloc (.cells zeroCells 31)) :=
  ⟨k.call ((Below.refl _ _).alloc (Nat.le_refl _) _), k.below.size, pageAt_zeros W 31⟩
theorem BgS.put {w : World} {j d l m : Nat} {s : Dk.St} {a z : Nat} {q : Int} {o : Bool} {p : List UInt8} {C : Nat} {b : Bool} {W : World} (k : BgS w j d l m s a z q o p (some (C, b)) W) (hp : p.length = 64) (hj : j < w.heap.size) (hd : d < w.heap.size ∧ l < w.heap.size ∧ m < w.heap.size) : BgS w j d l m s a z q o p (some (C, true)) (W.setCells C 0 (byteVals p)) := by
  obtain ⟨k1, k2, k3⟩ := k
  exact ⟨k1.olds hj hd C k2 _, k2, k3.put p hp⟩
theorem gives_store_page {o : Oper} {a : Act} {w : World} {b : Nat} {q p : List UInt8} {R : Value → World → Prop} (k : PageAt w b q) (hp : p.length = 64) (x y : Operand) (ho : o.op = .store 31 x y) (hx : a.eval x = .pointer (some ⟨b, 0, none⟩)) (hy : a.eval y = pageV p)
    (hR : R undef (w.setCells b 0 (byteVals p))) : Gives Try.prog (execOp a.eval o) w R := by
  have hs := run_storeVar_mid (P := Try.prog) w b 0 31 (byteVals p).toArray (by rw [List.size_toArray, byteVals_length, hp]; exact k.free) (by rw [page_info, List.size_toArray, byteVals_length, hp]) (all_oneCell_toArray (byteVals_one p))
  rw [pageV_def] at hs
  have hrun : (execOp a.eval o).run Try.prog w = .ok .skip (w.setCells b 0 (byteVals p)) ∨ (execOp a.eval o).run Try.prog w = .ok (.value undef) (w.setCells b 0 (byteVals p)) := by
    unfold execOp
    simp only [ho, hx, hy, Instr.storeAt, Instr.sureAddr, Sem.run_bind, Sem.run_pure, Result.andThen_ok, hs]
    simp
  unfold Gives
  rcases hrun with h | h <;> (rw [h]; exact hR)
theorem runs_one (s : Dk.St) (l : List Chg) : Jn.runs s [l] = Jn.runW s l := by
  unfold Jn.runs
  split
  · rename_i h
    unfold Jn.runs
    rw [← h]
  · rfl
theorem runs_ok {s : Dk.St} {l : List Chg} {r : List (List Chg)} (h : (Jn.runW s l).2 = 0) : Jn.runs s (l :: r) = Jn.runs (Jn.runW s l).1 r := by rw [Jn.runs, if_pos h]
theorem runs_bad {s : Dk.St} {l : List Chg} {r : List (List Chg)} (h : (Jn.runW s l).2 ≠ 0) : Jn.runs s (l :: r) = Jn.runW s l := by rw [Jn.runs, if_neg h]

set_option maxRecDepth 100000 in
set_option maxHeartbeats 4000000 in
theorem begin_quiet {w : World} {j d l m a z : Nat} {q : Int} {o : Bool} {s : Dk.St} (hj : JAt w j d a z q o) (h : DiskAt w d l m s) (hjd : j ∉ [d, l, m]) (ha : a ≤ 900) (hup : s.down = false) (hal : a < s.last.length) (hq : Jn.QuietP (Dk.readP s (a : Int))) (hn : Hd.nextN [Dk.readP s (a : Int)] < 4294967296) :
    Calls Try.prog 17 #[.pointer (some ⟨j, 0, none⟩)] w fun e w' => e = .returned (.tuple #[.int .i64 0, .int .i64 (Jn.runs s [[⟨(a : Int), pageH (quietH (Hd.nextN [Dk.readP s (a : Int)]))⟩]]).2]) ∧ DiskAt w' d l m (Jn.runs s [[⟨(a : Int), pageH (quietH (Hd.nextN [Dk.readP s (a : Int)]))⟩]]).1 ∧ JAt w' j d a z (Hd.nextN [Dk.readP s (a : Int)]) o ∧ Only [d, l, m, j] w w' := by
  rw [runs_one]
  have HI : Hid (BegI w j d l m s a z q o w) := Lib.hid ⟨h, hj, Below.refl _ _⟩
  have HJD := Lib.hid hjd
  have HJL := Lib.hid hj.lt
  have HDL : Hid (d < w.heap.size ∧ l < w.heap.size ∧ m < w.heap.size) := Lib.hid ⟨h.dlt, h.llt, h.mlt⟩
  have HPL := Lib.hid (Dk.readP_len h.ok (a : Int))
  have HRD : Hid (∀ W, BegI w j d l m s a z q o W → Calls Try.prog 12 #[.pointer (some ⟨d, 0, none⟩), .int .i64 (a : Int)] W fun e w' => e = .returned (.tuple #[pageV (Dk.readP s (a : Int)), .int .i64 0]) ∧ Below W.heap.size W w') := Lib.hid (fun W hW => by
    have := read_any hW.disk (a : Int)
    rw [Dk.reach_mk hup (Dk.has_mk hal)] at this
    exact this)
  clear h hj hjd hup hal
  generalize Dk.readP s (a : Int) = p at HPL HRD hq hn ⊢
  have HN0 := Lib.hid (Hd.nextN_nonneg [p])
  have HDC := Lib.hid (fun (w : World) => decode_any p w HPL.out)
  have HNX : Hid (∀ W A, PageRow W A 1 [p] → Calls Try.prog 25 #[.slice A 1 1] W fun e w' => e = .returned (.int .i64 (Hd.nextN [p])) ∧ Below W.heap.size W w') := Lib.hid (fun W A hr => next_any A 1 1 [p] W hr)
  have HQ := Lib.hid hq
  clear hq
  generalize hnn : Hd.nextN [p] = n at HN0 HNX hn ⊢
  clear hnn
  go_enter Try.func17, Try.ntmps17
  go_wp2_with fail
  refine wp_region_lin (BgS w j d l m s a z q o p) (fun i => i == 14 || i == 15) (fun i => [.pointer (some ⟨j, 0, none⟩), .pointer (some ⟨j, 0, none⟩), .pointer (some ⟨j, 0, none⟩), .pointer (some ⟨j, 0, none⟩), .pointer (some ⟨d, 0, none⟩), .pointer (some ⟨j, 0, none⟩), .pointer (some ⟨j, 0, none⟩), .pointer (some ⟨j, 0, none⟩), .pointer (some ⟨j, 1, none⟩), .int .i64 (a : Int), .tuple #[pageV p, .int .i64 0], .tuple #[pageV p, .int .i64 0], pageV p, .int .i64 0, undef, undef, .int .i64 0].getD i undef) (none) (by kernel_rfl) (by kernel_rfl) (⟨HI.out.call (Below.refl _ _).drew, trivial⟩) ?_
  refine lin_step (i := 0) (d := some 11) (v := .pointer (some ⟨j, 0, none⟩)) rfl rfl (by kernel_rfl) (by kernel_rfl) rfl rfl (ord_value (by kernel_rfl) ?_) ?_
  · intro _ W hS; have c0 := hS.1.jr.c0; have c1 := hS.1.jr.c1; go_simp
  (try simp only [Act.put, List.setIfInBounds_toArray, List.set_cons_zero, List.set_cons_succ])
  refine lin_step (i := 1) (d := some 12) (v := .pointer (some ⟨j, 0, none⟩)) rfl rfl (by kernel_rfl) (by kernel_rfl) rfl rfl (ord_value (by kernel_rfl) ?_) ?_
  · intro _ W hS; have c0 := hS.1.jr.c0; have c1 := hS.1.jr.c1; go_simp
  (try simp only [Act.put, List.setIfInBounds_toArray, List.set_cons_zero, List.set_cons_succ])
  refine lin_step (i := 2) (d := some 13) (v := .pointer (some ⟨j, 0, none⟩)) rfl rfl (by kernel_rfl) (by kernel_rfl) rfl rfl (ord_value (by kernel_rfl) ?_) ?_
  · intro _ W hS; have c0 := hS.1.jr.c0; have c1 := hS.1.jr.c1; go_simp
  (try simp only [Act.put, List.setIfInBounds_toArray, List.set_cons_zero, List.set_cons_succ])
  refine lin_step (i := 3) (d := some 14) (v := .pointer (some ⟨j, 0, none⟩)) rfl rfl (by kernel_rfl) (by kernel_rfl) rfl rfl (ord_value (by kernel_rfl) ?_) ?_
  · intro _ W hS; have c0 := hS.1.jr.c0; have c1 := hS.1.jr.c1; go_simp
  (try simp only [Act.put, List.setIfInBounds_toArray, List.set_cons_zero, List.set_cons_succ])
  refine lin_step (i := 4) (d := some 15) (v := .pointer (some ⟨d, 0, none⟩)) rfl rfl (by kernel_rfl) (by kernel_rfl) rfl rfl (ord_value (by kernel_rfl) ?_) ?_
  · intro _ W hS; have c0 := hS.1.jr.c0; have c1 := hS.1.jr.c1; go_simp
  (try simp only [Act.put, List.setIfInBounds_toArray, List.set_cons_zero, List.set_cons_succ])
  refine lin_step (i := 5) (d := some 16) (v := .pointer (some ⟨j, 0, none⟩)) rfl rfl (by kernel_rfl) (by kernel_rfl) rfl rfl (ord_value (by kernel_rfl) ?_) ?_
  · intro _ W hS; have c0 := hS.1.jr.c0; have c1 := hS.1.jr.c1; go_simp
  (try simp only [Act.put, List.setIfInBounds_toArray, List.set_cons_zero, List.set_cons_succ])
  refine lin_step (i := 6) (d := some 17) (v := .pointer (some ⟨j, 0, none⟩)) rfl rfl (by kernel_rfl) (by kernel_rfl) rfl rfl (ord_value (by kernel_rfl) ?_) ?_
  · intro _ W hS; have c0 := hS.1.jr.c0; have c1 := hS.1.jr.c1; go_simp
  (try simp only [Act.put, List.setIfInBounds_toArray, List.set_cons_zero, List.set_cons_succ])
  refine lin_step (i := 7) (d := some 18) (v := .pointer (some ⟨j, 0, none⟩)) rfl rfl (by kernel_rfl) (by kernel_rfl) rfl rfl (ord_value (by kernel_rfl) ?_) ?_
  · intro _ W hS; have c0 := hS.1.jr.c0; have c1 := hS.1.jr.c1; go_simp
  (try simp only [Act.put, List.setIfInBounds_toArray, List.set_cons_zero, List.set_cons_succ])
  refine lin_step (i := 8) (d := some 19) (v := .pointer (some ⟨j, 1, none⟩)) rfl rfl (by kernel_rfl) (by kernel_rfl) rfl rfl (ord_value (by kernel_rfl) ?_) ?_
  · intro _ W hS; have c0 := hS.1.jr.c0; have c1 := hS.1.jr.c1; go_simp
  (try simp only [Act.put, List.setIfInBounds_toArray, List.set_cons_zero, List.set_cons_succ])
  refine lin_step (i := 9) (d := some 20) (v := .int .i64 (a : Int)) rfl rfl (by kernel_rfl) (by kernel_rfl) rfl rfl (ord_value (by kernel_rfl) ?_) ?_
  · intro _ W hS; have c0 := hS.1.jr.c0; have c1 := hS.1.jr.c1; go_simp
  (try simp only [Act.put, List.setIfInBounds_toArray, List.set_cons_zero, List.set_cons_succ])
  refine lin_step (i := 10) (d := some 21) (v := .tuple #[pageV p, .int .i64 0]) rfl rfl (by kernel_rfl) (by kernel_rfl) rfl rfl (ord_call (f := 12) (args := #[.pointer (some ⟨d, 0, none⟩), .int .i64 (a : Int)]) (by kernel_rfl) ?_ (fun _ _ hS => (HRD.out _ hS.1).mono fun _ _ ⟨he, hb⟩ => ⟨he, BgS.call hS hb⟩)) ?_
  · intro _; go_simp
  (try simp only [Act.put, List.setIfInBounds_toArray, List.set_cons_zero, List.set_cons_succ])
  refine lin_step (i := 11) (d := some 10) (v := .tuple #[pageV p, .int .i64 0]) rfl rfl (by kernel_rfl) (by kernel_rfl) rfl rfl (ord_value (by kernel_rfl) ?_) ?_
  · intro _ W hS; have c0 := hS.1.jr.c0; have c1 := hS.1.jr.c1; go_simp
  (try simp only [Act.put, List.setIfInBounds_toArray, List.set_cons_zero, List.set_cons_succ])
  refine lin_step (i := 12) (d := some 22) (v := pageV p) rfl rfl (by kernel_rfl) (by kernel_rfl) rfl rfl (ord_value (by kernel_rfl) ?_) ?_
  · intro _ W hS; have c0 := hS.1.jr.c0; have c1 := hS.1.jr.c1; go_simp
  (try simp only [Act.put, List.setIfInBounds_toArray, List.set_cons_zero, List.set_cons_succ])
  refine lin_step (i := 13) (d := some 23) (v := .int .i64 0) rfl rfl (by kernel_rfl) (by kernel_rfl) rfl rfl (ord_value (by kernel_rfl) ?_) ?_
  · intro _ W hS; have c0 := hS.1.jr.c0; have c1 := hS.1.jr.c1; go_simp
  (try simp only [Act.put, List.setIfInBounds_toArray, List.set_cons_zero, List.set_cons_succ])
  refine lin_turn (i := 14) (d := some 4) (fun u s => ∃ g, w.heap.size ≤ g ∧ u = .pointer (some ⟨g, 0, none⟩) ∧ s = some (g, false)) rfl rfl (by kernel_rfl) (by kernel_rfl) rfl (by kernel_rfl) (⟨_, _, w.heap.size, Nat.le_refl _, rfl, rfl⟩) (by kernel_rfl) (fun W hS => gives_to (v := .pointer (some ⟨W.heap.size, 0, none⟩)) (w' := W.alloc (.cells zeroCells 31)) (by rw [zeroCells_def]; go_simp) ⟨some (W.heap.size, false), ⟨W.heap.size, hS.1.below.size, rfl, rfl⟩, BgS.alloc hS.1⟩) ?_
  rintro _ _ ⟨C, hC, rfl, rfl⟩
  (try simp only [Act.put, List.setIfInBounds_toArray, List.set_cons_zero, List.set_cons_succ])
  refine lin_turn (i := 15) (d := none) (fun u s => u = undef ∧ s = some (C, true)) rfl rfl (by kernel_rfl) (by kernel_rfl) rfl (by kernel_rfl) (⟨_, _, rfl, rfl⟩) (by kernel_rfl) (fun W hS => gives_store_page hS.2.2 HPL.out (.tmp 4) (.tmp 22) rfl rfl rfl ⟨some (C, true), ⟨rfl, rfl⟩, BgS.put hS HPL.out HJL.out HDL.out⟩) ?_
  rintro _ _ ⟨rfl, rfl⟩
  (try simp only [Act.put, List.setIfInBounds_toArray, List.set_cons_zero, List.set_cons_succ])
  refine lin_step (i := 16) (d := some 5) (v := .int .i64 0) rfl rfl (by kernel_rfl) (by kernel_rfl) rfl rfl (ord_value (by kernel_rfl) ?_) ?_
  · intro _ W hS; have c0 := hS.1.jr.c0; have c1 := hS.1.jr.c1; go_simp
  (try simp only [Act.put, List.setIfInBounds_toArray, List.set_cons_zero, List.set_cons_succ])
  refine lin_done (by kernel_rfl) ?_
  intro w3 hS3
  have HI3 := Lib.hid hS3.1
  have HP3 : Hid (PageAt w3 C p) := Lib.hid hS3.2.2
  have HC := Lib.hid hC
  clear hS3 hC HI HRD
  have HLD : Hid (∀ W, BegI w j d l m s a z q o W → Calls Try.prog 24 #[.pointer (some ⟨j, 0, none⟩), .agg #[.int .i64 n, .bool false, .int .i64 0, .int .u32 0]] W fun e w' => e = .returned (.int .i64 (Jn.runW s [⟨(a : Int), pageH (quietH n)⟩]).2) ∧ DiskAt w' d l m (Jn.runW s [⟨(a : Int), pageH (quietH n)⟩]).1 ∧ JAt w' j d a z n o ∧ Only [d, l, m, j] W w') := Lib.hid (fun W hW => lead_any hW.jr hW.disk HJD.out ha (quietH n) (Jn.quietH_right HN0.out hn) (Int.le_refl 0) (show (0 : Int) < 4294967296 by omega))
  obtain ⟨hh, wb, hdec, hwb⟩ : ∃ (hh : Head) (wb : Bool), (∀ W, Calls Try.prog 23 #[pageV p] W fun e w' => e = .returned (.tuple #[headV hh, .bool wb]) ∧ Below W.heap.size W w') ∧ (wb = false ∨ (wb = true ∧ hh.live = false)) := by
    refine ⟨Hd.decH p, Hd.wholeB p, HDC.out, ?_⟩
    cases hw : Hd.wholeB p with
    | false => exact Or.inl rfl
    | true =>
      right
      refine ⟨rfl, ?_⟩
      unfold Hd.decH
      rw [if_pos hw]
      cases hl : (Hd.readH p).live with
      | false => rfl
      | true => exact absurd ⟨hw, hl⟩ HQ.out
  have HDE := Lib.hid hdec
  clear hdec HDC HQ
  rcases hwb with rfl | ⟨rfl, hlv⟩
  · go_wp2_with (with_reducible refine wpList_load_page HP3.out rfl (.tmp 4) rfl rfl ?_)
    refine (HDE.out _).mono ?_
    rintro e w4 ⟨rfl, hB4⟩
    have HI4 := Lib.hid (HI3.out.call hB4)
    have HP4 := Lib.hid (HP3.out.below hB4 HP3.out.lt)
    clear HI3 HP3 hB4
    go_wp2_with (first
      | ((with_reducible refine wpList_store_newhead headT (h := hh) rfl (.tmp 6) (.tmp 30) rfl rfl ?_ ?_ ?_); (exact rfl); (exact rfl); intro w5 hH hB5 hz5; have HI5 := Lib.hid (HI4.out.call hB5); have HP5 := Lib.hid (HP4.out.below hB5 HP4.out.lt); have g1 := hH.c1; clear HI4 HP4 hH hB5 hz5; generalize w4.heap.size = D at g1 ⊢)
      | (with_reducible refine wpList_load_page HP5.out rfl (.tmp 4) rfl rfl ?_)
      | ((with_reducible refine wpList_buildPage HPL.out rfl (.tmp 40) rfl ?_ ?_); (exact rfl)))
    have HI6 := Lib.hid (HI5.out.call (W' := w5.alloc (.cells (byteVals p).toArray 31)) ((Below.refl _ _).alloc (Nat.le_refl _) _))
    have HR6 := Lib.hid (((rows_one w5 p HPL.out 31).slice (L := []) (by simp)).row (by simp) (rows_one w5 p HPL.out 31).size)
    clear HI5 HP5 g1
    generalize w5.alloc (.cells (byteVals p).toArray 31) = w6 at HI6 HR6 ⊢
    refine (HNX.out _ _ HR6.out).mono ?_
    rintro e w7 ⟨rfl, hB7⟩
    have HI7 := Lib.hid (HI6.out.call hB7)
    clear HI6 HR6 hB7
    go_wp2_with fail
    refine (HLD.out _ HI7.out).mono ?_
    rintro e w8 ⟨rfl, hd8, hj8, ho8⟩
    have HO8 : Hid (Only [d, l, m, j] w w8) := Lib.hid ((Only.below (l := []) (HI7.out.below.mono (Nat.le_refl _))).mono (by simp) |>.trans ho8)
    have HD8 := Lib.hid hd8
    have HJ8 := Lib.hid hj8
    clear HI7 hd8 hj8 ho8
    go_wp2_with fail
    go_ret2
    exact ⟨rfl, HD8.out, HJ8.out, HO8.out⟩
  · go_wp2_with (with_reducible refine wpList_load_page HP3.out rfl (.tmp 4) rfl rfl ?_)
    refine (HDE.out _).mono ?_
    rintro e w4 ⟨rfl, hB4⟩
    have HI4 := Lib.hid (HI3.out.call hB4)
    have HP4 := Lib.hid (HP3.out.below hB4 HP3.out.lt)
    clear HI3 HP3 hB4
    go_wp2_with (first
      | ((with_reducible refine wpList_store_newhead headT (h := hh) rfl (.tmp 6) (.tmp 30) rfl rfl ?_ ?_ ?_); (exact rfl); (exact rfl); intro w5 hH hB5 hz5; have HI5 := Lib.hid (HI4.out.call hB5); have HP5 := Lib.hid (HP4.out.below hB5 HP4.out.lt); have g1 := hH.c1; rw [hlv] at g1; clear HI4 HP4 hH hB5 hz5; generalize w4.heap.size = D at g1 ⊢)
      | (with_reducible refine wpList_load_page HP5.out rfl (.tmp 4) rfl rfl ?_)
      | ((with_reducible refine wpList_buildPage HPL.out rfl (.tmp 40) rfl ?_ ?_); (exact rfl)))
    have HI6 := Lib.hid (HI5.out.call (W' := w5.alloc (.cells (byteVals p).toArray 31)) ((Below.refl _ _).alloc (Nat.le_refl _) _))
    have HR6 := Lib.hid (((rows_one w5 p HPL.out 31).slice (L := []) (by simp)).row (by simp) (rows_one w5 p HPL.out 31).size)
    clear HI5 HP5 g1
    generalize w5.alloc (.cells (byteVals p).toArray 31) = w6 at HI6 HR6 ⊢
    refine (HNX.out _ _ HR6.out).mono ?_
    rintro e w7 ⟨rfl, hB7⟩
    have HI7 := Lib.hid (HI6.out.call hB7)
    clear HI6 HR6 hB7
    go_wp2_with fail
    refine (HLD.out _ HI7.out).mono ?_
    rintro e w8 ⟨rfl, hd8, hj8, ho8⟩
    have HO8 : Hid (Only [d, l, m, j] w w8) := Lib.hid ((Only.below (l := []) (HI7.out.below.mono (Nat.le_refl _))).mono (by simp) |>.trans ho8)
    have HD8 := Lib.hid hd8
    have HJ8 := Lib.hid hj8
    clear HI7 hd8 hj8 ho8
    go_wp2_with fail
    go_ret2
    exact ⟨rfl, HD8.out, HJ8.out, HO8.out⟩
end Go.Proofs.Ytlamllnflbdcjaa
