/- Texts of the proof. -/
import Derived.Test.YtmpfcgjjejlhdaaGreatAam
import Derived.Test.YtmpfcgjjejlhdaaGreatAah
import Derived.Test.YtmpfcgjjejlhdaaGreatAaf
import Derived.Test.YtmpfcgjjejlhdaaGreatAab
set_option maxRecDepth 100000
set_option maxHeartbeats 16000000
namespace Go.Proofs.YtmpfcgjjejlhdaaGreat
section
open Go.RowKit Go.Maps
open Dk (zeros zeros_length)
open Ii (Ino)
open Jn (Chg)
def encs : Nat → List (List UInt8) → List Chg
  | _, [] => []
  | k, p :: r => ⟨(k : Int), p⟩ :: encs (k + 1) r
theorem encs_drop {ps : List (List UInt8)} {k : Nat} {p : List UInt8} (h : ps[k]? = some p) : encs k (ps.drop k) = ⟨(k : Int), p⟩ :: encs (k + 1) (ps.drop (k + 1)) := by
  obtain ⟨q1, q2⟩ := List.getElem?_eq_some_iff.1 h
  rw [List.drop_eq_getElem_cons q1, q2]; rfl
structure Ly (w0 : World) (d l m : Nat) (s : Dk.St) (g : Nat) (ps : List (List UInt8)) (w : World) : Prop where
  disk : DiskAt w d l m s
  rows : RowsAt w g ps
  only : Only [d, l, m] w0 w
theorem Ly.below {w0 w w' : World} {d l m : Nat} {s : Dk.St} {g : Nat} {ps : List (List UInt8)} (h : Ly w0 d l m s g ps w) (hg : g < w.heap.size) (hb : Below w.heap.size w w') : Ly w0 d l m s g ps w' :=
  ⟨h.disk.below hb, h.rows.block (hb.block _ hg), h.only.ofBelow hb⟩
theorem Ly.call {w0 w w' : World} {d l m : Nat} {s s' : Dk.St} {g : Nat} {ps : List (List UInt8)} (h : Ly w0 d l m s g ps w) (hg : g < w.heap.size) (hn : g ∉ [d, l, m]) (hd : DiskAt w' d l m s') (ho : Only [d, l, m] w w') : Ly w0 d l m s' g ps w' :=
  ⟨hd, h.rows.block (ho.block _ hg hn), h.only.trans ho⟩
theorem write_step {w : World} {d l m : Nat} {s : Dk.St} {g : Nat} {ps : List (List UInt8)} {w0 : World} (h : Ly w0 d l m s g ps w) (hg : g < w0.heap.size) (hn : g ∉ [d, l, m]) (i : Int) (p : List UInt8) (hp : p.length = 64) : Calls Tryz.prog 97 #[.pointer (some ⟨d, 0, none⟩), .int .i64 i, pageV p] w fun e w' => e = .returned (.int .i64 (Dk.writeE s i)) ∧ Ly w0 d l m (Dk.write s i p) g ps w' :=
  (write_any h.disk i p hp).mono fun e w' hh => ⟨hh.1, h.call (Nat.lt_of_lt_of_le hg h.only.size) hn hh.2.1 (hh.2.2.mono (by simp))⟩
theorem flush_step {w : World} {d l m : Nat} {s : Dk.St} {g : Nat} {ps : List (List UInt8)} {w0 : World} (h : Ly w0 d l m s g ps w) (hg : g < w0.heap.size) (hn : g ∉ [d, l, m]) : Calls Tryz.prog 98 #[.pointer (some ⟨d, 0, none⟩)] w fun e w' => e = .returned (.int .i64 (Dk.flushE s)) ∧ Ly w0 d l m (Dk.flush s) g ps w' :=
  (flush_any h.disk).mono fun e w' hh => ⟨hh.1, h.call (Nat.lt_of_lt_of_le hg h.only.size) hn hh.2.1 hh.2.2⟩
theorem lay_any {w : World} {d l m : Nat} {s : Dk.St} {g c : Nat} {ps : List (List UInt8)} (h : DiskAt w d l m s) (hr : RowsAt w g ps) (hg : g < w.heap.size) (hn : g ∉ [d, l, m]) (hl : ps.length ≤ 1000) :
    Calls Tryz.prog 55 #[.pointer (some ⟨d, 0, none⟩), .slice (some ⟨g, 0, none⟩) ps.length c] w fun e w' => e = .returned (.int .i64 (Jn.runW s (encs 0 ps)).2) ∧ DiskAt w' d l m (Jn.runW s (encs 0 ps)).1 ∧ Only [d, l, m] w w' := by
  have S0 := Lib.hid (show Ly w d l m s g ps w from ⟨h, hr, Only.refl _ _⟩)
  have HW := Lib.hid (fun (W : World) (s' : Dk.St) (i : Int) (p : List UInt8) (hp : p.length = 64) (hy : Ly w d l m s' g ps W) => write_step hy hg hn i p hp)
  have HF := Lib.hid (fun (W : World) (s' : Dk.St) (hy : Ly w d l m s' g ps W) => flush_step hy hg hn)
  have HB := Lib.hid (fun (W W' : World) (s' : Dk.St) (hy : Ly w d l m s' g ps W) (hb : Below W.heap.size W W') => hy.below (Nat.lt_of_lt_of_le hg hy.only.size) hb)
  obtain ⟨R, hR⟩ : ∃ R, R = Jn.runW s (encs 0 ps) := ⟨_, rfl⟩
  have HRR : Hid (Jn.runW s (encs 0 (ps.drop 0)) = R) := Lib.hid (by rw [List.drop_zero, hR])
  rw [← hR]
  clear h hr hn hR
  obtain ⟨len, hlen⟩ : ∃ len, ps.length = len := ⟨_, rfl⟩
  have HLE := Lib.hid hlen
  rw [hlen] at hl ⊢
  clear hlen
  go_enter Tryz.func55, Tryz.ntmps55
  go_wp2_with fail
  go_loopw [10] (fun i wr => ∃ (k : Nat) (s' : Dk.St), k ≤ len ∧ i = .int .i64 k ∧ Ly w d l m s' g ps wr ∧ Hid (Jn.runW s' (encs k (ps.drop k)) = R)) (fun i _ => len - (intOf i).toNat)
  case atStart => exact ⟨0, s, Nat.zero_le _, rfl, S0.out, HRR⟩
  case round =>
    clear S0 HRR
    obtain ⟨k, s', hk, rfl, hS, HG⟩ := hrel
    have S := Lib.hid hS
    clear hS
    by_cases hlt : k < len
    · obtain ⟨p, hp⟩ : ∃ p, ps[k]? = some p := ⟨_, List.getElem?_eq_getElem (by rw [HLE.out]; exact hlt)⟩
      have HP : Hid (p.length = 64) := Lib.hid (S.out.rows.size p (List.mem_of_getElem? hp))
      rw [encs_drop hp, Jn.runW] at HG
      have HPK := Lib.hid hp
      clear hp
      by_cases hw : Dk.writeE s' (k : Int) = 0
      · have HWK := Lib.hid (fun (W : World) (hy : Ly w d l m s' g ps W) => HW.out W s' (k : Int) p HP.out hy)
        rw [if_pos hw] at HG
        rw [hw] at HWK
        clear hw
        go_wp2_with (first
          | (with_reducible refine wpList_load_row S.out.rows k HPK.out rfl (.tmp 13) rfl rfl ?_)
          | ((with_reducible refine wpList_store_new rfl (.tmp 6) (.tmp 14) rfl rfl ?_ ?_ HP.out ?_); (exact rfl); (exact rfl); intro W2 hP hB2 hz2; have S1 := Lib.hid (HB.out _ _ _ S.out hB2); clear S; have S := Lib.hid S1.out; have PG := Lib.hid hP; clear hP hB2 hz2 S1)
          | (with_reducible refine wpList_load_page PG.out rfl (.tmp 6) rfl rfl ?_)
          | (go_at_call 97; (with_reducible refine (HWK.out _ S.out).mono ?_); rintro e w3 ⟨rfl, hS3⟩; clear S; have S := Lib.hid hS3; clear hS3))
        go_roundw
        case rel => exact ⟨k + 1, _, by omega, by go_num, S.out, HG⟩
        case measure => simp [intOf]; omega
      · have HWK := Lib.hid (fun (W : World) (hy : Ly w d l m s' g ps W) => HW.out W s' (k : Int) p HP.out hy)
        have gk : (Dk.writeE s' (k : Int) == 0) = false := by simpa using hw
        rw [if_neg hw] at HG
        have hR2 := HG.out
        subst hR2
        clear hw HG
        generalize hwe : Dk.writeE s' (k : Int) = we at HWK gk
        have HWE := Lib.hid hwe
        clear hwe
        go_wp2_with (first
          | (with_reducible refine wpList_load_row S.out.rows k HPK.out rfl (.tmp 13) rfl rfl ?_)
          | ((with_reducible refine wpList_store_new rfl (.tmp 6) (.tmp 14) rfl rfl ?_ ?_ HP.out ?_); (exact rfl); (exact rfl); intro W2 hP hB2 hz2; have S1 := Lib.hid (HB.out _ _ _ S.out hB2); clear S; have S := Lib.hid S1.out; have PG := Lib.hid hP; clear hP hB2 hz2 S1)
          | (with_reducible refine wpList_load_page PG.out rfl (.tmp 6) rfl rfl ?_)
          | (go_at_call 97; (with_reducible refine (HWK.out _ S.out).mono ?_); rintro e w3 ⟨rfl, hS3⟩; clear S; have S := Lib.hid hS3; clear hS3))
        go_ret
        exact ⟨by rw [HWE.out]; rfl, S.out.disk, S.out.only⟩
    · obtain rfl : k = len := by omega
      have HZ : Hid (encs k (ps.drop k) = []) := Lib.hid (by rw [List.drop_of_length_le (by rw [HLE.out]; omega)]; rfl)
      rw [HZ.out, Jn.runW] at HG
      have hR2 := HG.out
      subst hR2
      clear HG
      go_wp2_with (go_at_call 98; (with_reducible refine (HF.out _ _ S.out).mono ?_); rintro e w3 ⟨rfl, hS3⟩; clear S; have S := Lib.hid hS3; clear hS3)
      go_ret
      exact ⟨rfl, S.out.disk, S.out.only⟩
end

section
open Go.RowKit Go.Maps
open Dk (zeros zeros_length)
open Ii (Ino)
def rootI : Ino := { k := 2, p := 493, u := 0, l := 2, s := 0, a := 0, b := 0, c := 0, d := 0, e := 0, f := 0 }
def bitsR : List UInt8 := Bt.setB zeros 0 true
def rootP : List UInt8 := Ii.putN zeros 0 rootI
def freshL (I : Int) : List (List UInt8) := ((List.replicate (Pl.dataN I).toNat zeros).set 41 bitsR).set 43 rootP
structure Fr (w : World) (n I : Int) (g : Nat) (ps : List (List UInt8)) (W : World) : Prop where
  rows : RowsAt W g ps
  ge : w.heap.size < g
  lt : g < W.heap.size
  bel : Below w.heap.size w W
  pl : RowAt W w.heap.size (planL n I)
theorem Fr.below {w W W' : World} {n I : Int} {g : Nat} {ps : List (List UInt8)} (h : Fr w n I g ps W) (hb : Below W.heap.size W W') : Fr w n I g ps W' :=
  ⟨h.rows.block (hb.block _ h.lt), h.ge, Nat.lt_of_lt_of_le h.lt hb.size, h.bel.trans (hb.mono h.bel.size), h.pl.step hb⟩
def FrS (w : World) (n I : Int) (g : Nat) (ps : List (List UInt8)) (z q : List UInt8) : Option (Bool × Nat) → World → Prop
  | none, W => Fr w n I g ps W
  | some (false, a), W => Fr w n I g ps W ∧ RowAt W a (byteVals z) ∧ a < W.heap.size
  | some (true, a), W => Fr w n I g ps W ∧ W.rangeAt a 0 (byteVals q) ∧ a < W.heap.size
theorem FrS.fr {w W : World} {n I : Int} {g : Nat} {ps : List (List UInt8)} {z q : List UInt8} : ∀ {k : Option (Bool × Nat)}, FrS w n I g ps z q k W → Fr w n I g ps W
  | none, h => h
  | some (false, _), h => h.1
  | some (true, _), h => h.1
theorem loads_page {B o : Nat} {p : List UInt8} (hp : p.length = 64) (w : World) (h : w.rangeAt B o (byteVals p)) : (loadVar 97 ⟨B, o, none⟩).run Tryz.prog w = .ok (.agg (byteVals p).toArray) w :=
  run_loadVar_mid (P := Tryz.prog) w B o 97 (byteVals p) _ h Tryz.underlying97 rfl (by rw [page_info, byteVals_length, hp])
theorem gives_load_page {o : Oper} {a : Act} {w : World} {b f : Nat} {p : List UInt8} {R : Value → World → Prop} (hp : p.length = 64) (u : Operand) (ho : o.op = .load 97 u) (hx : a.eval u = .pointer (some ⟨b, f, none⟩)) (h : w.rangeAt b f (byteVals p)) (hR : R (.agg (byteVals p).toArray) w) : Gives Tryz.prog (execOp a.eval o) w R := by
  have hl := loads_page hp w h
  unfold Gives execOp
  simp only [ho, hx, Instr.loadAt, Instr.sureAddr, Sem.run_bind, Sem.run_pure, Result.andThen_ok, hl]
  exact hR
theorem gives_store_rows {o : Oper} {a : Act} {w : World} {b : Nat} {ps : List (List UInt8)} {R : Value → World → Prop} {p : List UInt8} (k : RowsAt w b ps) (i : Nat) (hi : i < ps.length) (hp : p.length = 64) (x y : Operand) (ho : o.op = .store 97 x y) (hx : a.eval x = .pointer (some ⟨b, i * 64, none⟩)) (hy : a.eval y = .agg (byteVals p).toArray)
    (hR : R undef (w.setCells b (i * 64) (byteVals p))) : Gives Tryz.prog (execOp a.eval o) w R := by
  have hs := run_storeVar_mid (P := Tryz.prog) w b (i * 64) 97 (byteVals p).toArray (by rw [List.size_toArray, byteVals_length, hp]; exact k.thereAt i hi) (by rw [page_info, List.size_toArray, byteVals_length, hp]) (all_oneCell_toArray (byteVals_one p))
  have hrun : (execOp a.eval o).run Tryz.prog w = .ok .skip (w.setCells b (i * 64) (byteVals p)) ∨ (execOp a.eval o).run Tryz.prog w = .ok (.value undef) (w.setCells b (i * 64) (byteVals p)) := by
    unfold execOp
    simp only [ho, hx, hy, Instr.storeAt, Instr.sureAddr, Sem.run_bind, Sem.run_pure, Result.andThen_ok, hs]
    simp
  unfold Gives
  rcases hrun with h | h <;> (rw [h]; exact hR)
theorem Fr.put {w W : World} {n I : Int} {g : Nat} {ps : List (List UInt8)} (h : Fr w n I g ps W) (i : Nat) (hi : i < ps.length) {p : List UInt8} (hp : p.length = 64) : Fr w n I g (ps.set i p) (W.setCells g (i * 64) (byteVals p)) :=
  ⟨h.rows.put i hi p hp, h.ge, by rw [heap_setCells]; exact h.lt, below_setCells _ (Nat.le_of_lt h.ge) _ _ _ h.bel, h.pl.put_other g _ _ (Nat.ne_of_lt h.ge)⟩
theorem fresh_any {n I : Int} (w : World) (hpl : Pl.rightB n I = true) : Calls Tryz.prog 56 #[planV n I] w fun e w' => ∃ g, e = .returned (.slice (some ⟨g, 0, none⟩) (freshL I).length (freshL I).length) ∧ Fr w n I g (freshL I) w' := by
  obtain ⟨h1, h2, h3, h4⟩ := Pl.right_yes hpl
  have hd := Pl.data_bd h1 h2
  obtain ⟨D, hD⟩ : ∃ D : Nat, Pl.dataN I = (D : Int) := ⟨(Pl.dataN I).toNat, by omega⟩
  have HDA := Lib.hid (fun w => plData_yes n I w hpl)
  have HIB := Lib.hid (fun w => inodeBits_is hpl w)
  have HPL := Lib.hid (fun w => place_yes n I 1 w hpl (by omega) h1)
  have S0 := Lib.hid ((Lo.start (L := []) w (by simp)).alloc _ rfl (planL n I) 68)
  rw [hD] at HDA
  have hmk := fun (W : World) => run_make_pages W D (by omega)
  unfold planV at HDA HIB HPL ⊢
  go_enter Tryz.func56, Tryz.ntmps56
  go_wp2_with (first
    | (with_reducible refine wpList_load_mid rfl 68 (.tmp 1) rfl _ 0 rfl [.int .i64 n, .int .i64 I] _ (S0.out.get 0 _ rfl).range Tryz.underlying68 rfl (by kernel_rfl) ?_)
    | (go_at_call 99; (with_reducible refine (HDA.out _).mono ?_); rintro e w1 ⟨rfl, hb⟩; replace S0 := Lib.hid (S0.out.below hb); clear hb)
    | (with_reducible refine wpList_load_mid rfl 68 (.tmp 1) rfl _ 0 rfl [.int .i64 n, .int .i64 I] _ ((S0.out.get 0 _ rfl).alloc _).range Tryz.underlying68 rfl (by kernel_rfl) ?_)
    | (go_at_call 41; (with_reducible refine (HIB.out _).mono ?_); rintro e w2 ⟨rfl, hb⟩))
  have FR0 := rowsAt_new w1 D 97
  have S1 := Lib.hid ((S0.out.below (below_alloc w1 (.cells (zeroRow D) 97))).below hb)
  have hg1 := S0.out.only.size
  obtain ⟨g, hg⟩ : ∃ g, g = w1.heap.size := ⟨_, rfl⟩
  have F0 : Hid (Fr w n I g (List.replicate D zeros) w2) := Lib.hid ⟨by rw [hg]; exact FR0.block (hb.block _ (by simp)), by rw [hg]; exact (S0.out.row _ (List.mem_cons_self ..)).2.2, by rw [hg]; have := hb.size; simp at this; omega, S1.out.bel, S1.out.get 0 _ rfl⟩
  rw [← hg]
  have hg0 : w.heap.size < g := by have := (S0.out.row _ (List.mem_cons_self ..)).2.2; rw [hg]; exact this
  clear hb FR0 S0 hg hg1 hmk HDA HIB
  generalize hps : List.replicate D zeros = ps at F0
  have hpl2 : ps.length = D := by rw [← hps]; simp
  have hp41 : ps[41]? = some zeros := by rw [← hps, List.getElem?_replicate, if_pos (by omega)]
  have HL := Lib.hid zeros_length
  generalize hz : zeros = z at HL hp41
  have HBS : Hid (∀ a W, RowAt W a (byteVals z) → a < W.heap.size → Calls Tryz.prog 85 #[.int .i64 0, .bool true, .slice (some ⟨a, 0, none⟩) 1 1] W fun e w' => ∃ a' c, e = .returned (.slice (some ⟨a', 0, none⟩) 1 c) ∧ W.heap.size ≤ a' ∧ a' < w'.heap.size ∧ w'.rangeAt a' 0 (byteVals bitsR) ∧ Below W.heap.size W w') := Lib.hid (fun a W hr ha => (bset_any 0 true (some ⟨a, 0, none⟩) 1 1 z W (row_of_page (hr.page HL.out) ha) (by omega)).mono (by
    rintro e w' ⟨v, rfl, ho, hb⟩
    obtain ⟨g, c, rfl, hg1, hg2, hgr⟩ := row_own ho
    exact ⟨g, c, rfl, hg1, hg2, by unfold bitsR; rw [hz]; exact hgr, hb⟩))
  have HQ : Hid (bitsR.length = 64) := Lib.hid (by unfold bitsR; rw [Bt.setB_length, hz]; exact HL.out)
  generalize hq : bitsR = q at HBS HQ
  refine wp_region_linp (FrS w n I g ps z q) (fun _ _ => False) (fun i => i == 7 || i == 8 || i == 9 || i == 10 || i == 12) (fun i => [.slice (some ⟨g, 0, none⟩) D D, .int .i64 41, .int .i64 0, .slice (some ⟨g, 0, none⟩) D D, .int .i64 41, .pointer (some ⟨g, 41 * 64, none⟩), .agg (byteVals z).toArray, undef, undef, undef, undef, .pointer (some ⟨g, 41 * 64, none⟩), undef].getD i undef) none (by kernel_rfl) (by kernel_rfl) (fun _ _ _ _ h => h.elim) (show FrS w n I g ps z q none _ from F0.out.below ((Below.refl _ _).drew)) ?_
  refine linp_step (i := 0) (d := some 12) (v := (.slice (some ⟨g, 0, none⟩) D D)) rfl rfl (by kernel_rfl) (by kernel_rfl) rfl rfl (ord_value (by kernel_rfl) ?_) ?_
  · ((intro _ _ _; go_simp) <;> kernel_rfl)
  try simp only [Act.put, puA, puB, puC]
  refine linp_step (i := 1) (d := some 13) (v := (.int .i64 41)) rfl rfl (by kernel_rfl) (by kernel_rfl) rfl rfl (ord_value (by kernel_rfl) ?_) ?_
  · ((intro _ _ _; go_simp) <;> kernel_rfl)
  try simp only [Act.put, puA, puB, puC]
  refine linp_step (i := 2) (d := some 14) (v := (.int .i64 0)) rfl rfl (by kernel_rfl) (by kernel_rfl) rfl rfl (ord_call (f := 42) (args := #[.int .i64 1]) (by kernel_rfl) ?_ (fun k W hS => (inodeBit_any 1 W (by omega)).mono fun e w' hh => ⟨hh.1, hh.2 ▸ hS⟩)) ?_
  · (intro _; go_simp)
  try simp only [Act.put, puA, puB, puC]
  refine linp_step (i := 3) (d := some 15) (v := (.slice (some ⟨g, 0, none⟩) D D)) rfl rfl (by kernel_rfl) (by kernel_rfl) rfl rfl (ord_value (by kernel_rfl) ?_) ?_
  · ((intro _ _ _; go_simp) <;> kernel_rfl)
  try simp only [Act.put, puA, puB, puC]
  refine linp_step (i := 4) (d := some 16) (v := (.int .i64 41)) rfl rfl (by kernel_rfl) (by kernel_rfl) rfl rfl (ord_value (by kernel_rfl) ?_) ?_
  · ((intro _ _ _; go_simp) <;> kernel_rfl)
  try simp only [Act.put, puA, puB, puC]
  have h41 : 41 < D := by omega
  refine linp_step (i := 5) (d := some 17) (v := .pointer (some ⟨g, 41 * 64, none⟩)) rfl rfl (by kernel_rfl) (by kernel_rfl) rfl rfl (ord_value (by kernel_rfl) ?_) ?_
  · intro k W hS
    go_simp
    omega
  try simp only [Act.put, puA, puB, puC]
  refine linp_step (i := 6) (d := some 18) (v := (.agg (byteVals z).toArray)) rfl rfl (by kernel_rfl) (by kernel_rfl) rfl rfl (ord_mid (loads_page HL.out) (by kernel_rfl) (.tmp 17) rfl rfl (fun k W hS => (FrS.fr hS).rows.range 41 z hp41)) ?_
  try simp only [Act.put, puA, puB, puC]
  refine linp_turnD (i := 7) (d := some 19) [8, 9, 10, 12] (fun u k => ∃ a, u = .slice (some ⟨a, 0, none⟩) 1 1 ∧ k = some (false, a)) rfl rfl (by kernel_rfl) (by kernel_rfl) rfl (by kernel_rfl) ⟨_, _, 0, rfl, rfl⟩ (by kernel_rfl) (fun W hS => ?_) ?_
  · have hbl : (byteVals z).length = 64 := by rw [byteVals_length]; exact HL.out
    unfold GivesP
    go_simp
    rw [fold_page rfl HL.out]
    go_simp
    exact ⟨Fr.below hS (below_alloc _ _), rowAt_new W (byteVals z) _, by simp⟩
  rintro _ _ ⟨a, rfl, rfl⟩
  try simp only [Act.put, puA, puB, puC]
  refine linp_turnD (i := 8) (d := some 20) [9, 10, 12] (fun u k => ∃ a' c, u = .slice (some ⟨a', 0, none⟩) 1 c ∧ k = some (true, a')) rfl rfl (by kernel_rfl) (by kernel_rfl) rfl (by kernel_rfl) ⟨_, _, 0, 0, rfl, rfl⟩ (by kernel_rfl) (gives_all (f := 85) (args := #[.int .i64 0, .bool true, .slice (some ⟨a, 0, none⟩) 1 1]) ?_ (fun W hS => (HBS.out a W hS.2.1 hS.2.2).mono fun e w' hh => by
    obtain ⟨a', c, rfl, _, k2, k3, k4⟩ := hh
    exact Or.inl ⟨_, rfl, some (true, a'), ⟨a', c, rfl, rfl⟩, hS.1.below k4, k3, k2⟩)) ?_
  · (intro _; go_simp)
  rintro _ _ ⟨a', c, rfl, rfl⟩
  try simp only [Act.put, puA, puB, puC]
  refine linp_turnD (i := 9) (d := some 21) [10, 12] (fun u k => u = .pointer (some ⟨a', 0, none⟩) ∧ k = some (true, a')) rfl rfl (by kernel_rfl) (by kernel_rfl) rfl (by kernel_rfl) ⟨_, _, rfl, rfl⟩ (by kernel_rfl) (fun W hS => ?_) ?_
  · unfold GivesP
    go_simp
  rintro _ _ ⟨rfl, rfl⟩
  try simp only [Act.put, puA, puB, puC]
  refine linp_turnD (i := 10) (d := some 22) [12] (fun u k => u = .agg (byteVals q).toArray ∧ k = some (true, a')) rfl rfl (by kernel_rfl) (by kernel_rfl) rfl (by kernel_rfl) ⟨_, _, rfl, rfl⟩ (by kernel_rfl) (fun W hS => givesP_of (gives_load_page HQ.out (.tmp 21) rfl rfl hS.2.1 ⟨_, ⟨rfl, rfl⟩, hS⟩)) ?_
  rintro _ _ ⟨rfl, rfl⟩
  try simp only [Act.put, puA, puB, puC]
  refine linp_step (i := 11) (d := some 23) (v := .pointer (some ⟨g, 41 * 64, none⟩)) rfl rfl (by kernel_rfl) (by kernel_rfl) rfl rfl (ord_value (by kernel_rfl) ?_) ?_
  · intro k W hS
    go_simp
    omega
  try simp only [Act.put, puA, puB, puC]
  refine linp_last (i := 12) (d := none) rfl rfl (by kernel_rfl) rfl (by kernel_rfl) (by kernel_rfl) fun W hS => givesP_of (gives_store_rows (p := q) (FrS.fr hS).rows 41 (by omega) HQ.out (.tmp 23) (.tmp 22) rfl rfl rfl ?_)
  have F1 := Lib.hid ((FrS.fr hS).put 41 (by omega) HQ.out)
  clear hS F0
  generalize World.setCells _ _ _ _ = w3 at F1 ⊢
  try simp only [Act.put, puA, puB, puC]
  have HPUT : Hid (∀ W, Calls Tryz.prog 84 #[pageV z, .int .i64 0, .agg #[.int .i64 2, .int .i64 493, .int .i64 0, .int .i64 2, .int .i64 0, .int .i64 0, .int .i64 0, .int .i64 0, .int .i64 0, .int .i64 0, .int .i64 0]] W fun e w' => e = .returned (pageV rootP) ∧ Below W.heap.size W w') := Lib.hid (fun W => by
    have := iput_any z 1 rootI W HL.out
    unfold rootP
    rw [hz]
    exact this)
  have HRL : Hid (rootP.length = 64) := Lib.hid (by unfold rootP; rw [hz]; exact Ii.putN_length z 0 rootI HL.out (by omega))
  have hp43 : (ps.set 41 q)[43]? = some z := by rw [List.getElem?_set_ne (by omega), ← hps, List.getElem?_replicate, if_pos (by omega), hz]
  have hfl : freshL I = (ps.set 41 q).set 43 rootP := by unfold freshL; rw [hD, Int.toNat_natCast, hq, ← hps, hz]
  have hfn : (freshL I).length = D := by rw [hfl]; simp [hpl2]
  have HFL := Lib.hid hfl
  have HFN := Lib.hid hfn
  generalize rootP = rp at HPUT HRL HFL
  clear hps hq hz hfl hfn
  generalize hps2 : ps.set 41 q = ps2 at F1 hp43 HFL
  have hpl3 : ps2.length = D := by rw [← hps2]; simp [hpl2]
  clear hps2 hp41 hpl2 HQ HBS
  have h43 : 43 < D := by omega
  go_wp2_with (first
    | (with_reducible refine wpList_load_mid rfl 68 (.tmp 1) rfl _ 0 rfl [.int .i64 n, .int .i64 I] _ F1.out.pl.range Tryz.underlying68 rfl (by kernel_rfl) ?_)
    | (go_at_call 82; (with_reducible refine (HPL.out _).mono ?_); rintro e w4 ⟨rfl, hb⟩; replace F1 := Lib.hid (F1.out.below hb); clear hb)
    | (with_reducible refine wpList_load_row F1.out.rows 43 hp43 rfl (.tmp 33) rfl rfl ?_)
    | (go_at_call 84; (with_reducible refine (HPUT.out _).mono ?_); rintro e w5 ⟨rfl, hb⟩; replace F1 := Lib.hid (F1.out.below hb); clear hb)
    | (with_reducible refine wpList_store_row F1.out.rows 43 (by omega) HRL.out rfl (.tmp 38) (.tmp 37) rfl rfl rfl ?_))
  have F2 := Lib.hid (F1.out.put 43 (by omega) HRL.out)
  go_ret
  exact ⟨g, by rw [HFN.out]; rfl, by rw [HFL.out]; exact F2.out⟩
end

section
open Dk (zeros zeros_length)
open Go.RowKit
def markS : ByteArray := { data := #[78, 82, 84, 88] }
theorem setMark_any (w : World) : Calls Tryz.prog 67 #[pageV zeros, .int .i64 0, .string markS] w fun e w' => e = .returned (pageV (Pg.setTextN Pl.zero64 0 Pl.markB)) ∧ Below w.heap.size w w' :=
  setText_any zeros 0 markS w zeros_length (by decide)
theorem super_box (w : World) (p i : Int) {w' : World} (hb : Below (w.heap.size + 2) ((w.alloc (.cells #[.int .i64 p, .int .i64 i] 68)).alloc (.cells zeroCells 97)) w') :
    RowAt w' w.heap.size (planL p i) ∧ PageAt w' (w.heap.size + 1) zeros ∧ Below w.heap.size w w' := by
  have h0 := (rowAt_new w (planL p i) 68).alloc (.cells zeroCells 97)
  have h1 := pageAt_zeros (w.alloc (.cells (planL p i).toArray 68)) 97
  rw [World.size_alloc] at h1
  have hs := hb.size
  simp at hs
  exact ⟨h0.below hb (by omega), h1.below hb (by omega), (((Below.refl _ _).alloc (Nat.le_refl _) _).alloc (by simp) _).trans (hb.mono (by omega))⟩
theorem super_no (p i : Int) (w : World) (h : Pl.rightB p i = false) :
    Calls Tryz.prog 54 #[planV p i] w fun e w' => e = .returned (.tuple #[pageV zeros, .int .i64 22]) ∧ Below w.heap.size w w' := by
  have HZ := Lib.hid (fun (w' : World) hb => super_box w p i (w' := w') hb)
  rw [zeroCells_def] at HZ
  have HL := Lib.hid zeros_length
  have hq : pageV zeros = .agg zeroCells := rfl
  rw [zeroCells_def] at hq
  have HQ := Lib.hid hq; clear hq
  unfold planV
  go_enter Tryz.func54, Tryz.ntmps54
  go_wp2_with (first
    | (go_at_call 95; refine (right_is p i _ _ h).mono ?_; rintro e w3 ⟨rfl, hb⟩; have HB := Lib.hid (HZ.out w3 (by simpa using hb)); clear hb)
    | ((with_reducible refine wpList_store_page (q := zeros) HB.out.2.1 HL.out rfl (.tmp 2) (.tmp 8) rfl rfl ?_ ?_); (exact HQ.out.symm)))
  exact bodyPost_ret (results_page2 _ 2 3 rfl _ (HB.out.2.1.put _ HL.out) rfl rfl) rfl ⟨rfl, below_setCells _ (by omega) _ _ _ HB.out.2.2⟩
structure SupS (w0 : World) (v : Value) (vs : List Value) (D : Nat) (q : List UInt8) (W : World) : Prop where
  own : RowAt W w0.heap.size (v :: vs)
  res : PageAt W (w0.heap.size + 1) zeros
  page : PageAt W D q
  gt : w0.heap.size + 1 < D
  below : Below w0.heap.size w0 W
theorem SupS.call {w0 : World} {v : Value} {vs : List Value} {D : Nat} {q : List UInt8} {W W' : World} (k : SupS w0 v vs D q W) (hb : Below W.heap.size W W') : SupS w0 v vs D q W' :=
  ⟨k.own.step hb, k.res.step hb, k.page.step hb, k.gt, k.below.trans (hb.mono k.below.size)⟩
theorem SupS.put {w0 : World} {v : Value} {vs : List Value} {D : Nat} {q : List UInt8} {W : World} (k : SupS w0 v vs D q W) (q' : List UInt8) (hq : q'.length = 64) : SupS w0 v vs D q' (W.setCells D 0 (byteVals q')) :=
  ⟨k.own.put_other _ _ _ (by have := k.gt; omega), k.res.put_other _ _ _ (by have := k.gt; omega), k.page.put q' hq, k.gt, below_setCells _ (by have := k.gt; omega) _ _ _ k.below⟩
theorem SupS.back {w0 : World} {v : Value} {vs : List Value} {D : Nat} {q : List UInt8} {W : World} (k : SupS w0 v vs D q W) (q' : List UInt8) (hq : q'.length = 64) :
    PageAt (W.setCells (w0.heap.size + 1) 0 (byteVals q')) (w0.heap.size + 1) q' ∧ Below w0.heap.size w0 (W.setCells (w0.heap.size + 1) 0 (byteVals q')) :=
  ⟨k.res.put q' hq, below_setCells _ (by omega) _ _ _ k.below⟩
theorem super_yes (p i : Int) (w : World) (h : Pl.rightB p i = true) :
    Calls Tryz.prog 54 #[planV p i] w fun e w' => e = .returned (.tuple #[pageV (Pl.superP p i), .int .i64 0]) ∧ Below w.heap.size w w' := by
  have HZ := Lib.hid (fun (w' : World) hb => super_box w p i (w' := w') hb)
  rw [zeroCells_def] at HZ
  have L0 := Lib.hid Pl.mark_length
  have L1 := Lib.hid (Pl.mid_length p)
  have L2 := Lib.hid (Pl.super_length p i)
  have C0 := Lib.hid (fun w => setMark_any w)
  have C1 := Lib.hid (fun w => set_any (Pg.setTextN Pl.zero64 0 Pl.markB) 4 2 p w Pl.mark_length (by omega) (by omega))
  have C2 := Lib.hid (fun w => set_any (Pg.setN (Pg.setTextN Pl.zero64 0 Pl.markB) 4 2 p) 6 2 i w (Pl.mid_length p) (by omega) (by omega))
  change Hid (∀ w, Calls Tryz.prog _ _ w fun e w' => e = .returned (pageV (Pl.superP p i)) ∧ _) at C2
  generalize Pl.superP p i = q2 at L2 C2 ⊢
  generalize Pg.setN (Pg.setTextN Pl.zero64 0 Pl.markB) 4 2 p = q1 at L1 C1 C2
  generalize Pg.setTextN Pl.zero64 0 Pl.markB = q0 at L0 C0 C1
  unfold planV
  go_enter Tryz.func54, Tryz.ntmps54
  go_wp2_with (go_at_call 95; refine (right_is p i _ _ h).mono ?_; rintro e w3 ⟨rfl, hb⟩; have HB := Lib.hid (HZ.out w3 (by simpa using hb)); clear hb)
  rw [← zeroCells_def]
  refine (C0.out _).mono ?_
  rintro e w4 ⟨rfl, hb4⟩
  have H4 : Hid (RowAt w4 w.heap.size (planL p i) ∧ PageAt w4 (w.heap.size + 1) zeros ∧ Below w.heap.size w w4 ∧ w.heap.size + 1 < w4.heap.size) := Lib.hid ⟨HB.out.1.step hb4, HB.out.2.1.step hb4, HB.out.2.2.trans (hb4.mono HB.out.2.2.size), (HB.out.2.1.step hb4).lt⟩
  clear HB HZ hb4
  generalize zeroCells = Z
  go_wp2_with (first
    | ((with_reducible refine wpList_store_new rfl (.tmp 4) (.tmp 10) rfl rfl ?_ ?_ L0.out ?_); (exact rfl); (exact rfl); intro W5 hP hb5 hz5; have S5 : Hid (SupS w (.int .i64 p) [.int .i64 i] w4.heap.size q0 W5) := Lib.hid ⟨H4.out.1.step hb5, H4.out.2.1.step hb5, hP, H4.out.2.2.2, H4.out.2.2.1.trans (hb5.mono H4.out.2.2.1.size)⟩; clear hP hb5 hz5 H4; generalize w4.heap.size = D at S5 ⊢; have c5 := S5.out.own.cell 0 _ rfl)
    | (with_reducible refine wpList_load_page S5.out.page rfl (.tmp 4) rfl rfl ?_)
    | (go_at_call 96; refine (C1.out _).mono ?_; rintro e w6 ⟨rfl, hb6⟩; have S6 := Lib.hid (S5.out.call hb6); clear S5 hb6 c5 C1)
    | ((with_reducible refine wpList_store_page S6.out.page L1.out rfl (.tmp 4) (.tmp 14) rfl rfl rfl ?_); have S7 := Lib.hid (S6.out.put _ L1.out); clear S6; generalize w6.setCells D 0 (byteVals q1) = w7 at S7 ⊢; have c7 := S7.out.own.cell 1 _ rfl)
    | (with_reducible refine wpList_load_page S7.out.page rfl (.tmp 4) rfl rfl ?_)
    | (go_at_call 96; refine (C2.out _).mono ?_; rintro e w8 ⟨rfl, hb8⟩; have S8 := Lib.hid (S7.out.call hb8); clear S7 hb8 c7)
    | (with_reducible refine wpList_store_page S8.out.res L2.out rfl (.tmp 2) (.tmp 18) rfl rfl rfl ?_))
  have hq := S8.out.back q2 L2.out
  refine bodyPost_ret (results_page2 _ 2 3 rfl _ hq.1 rfl rfl) rfl ⟨rfl, hq.2⟩
end

section
open Go.RowKit Go.Maps
open Dk (zeros zeros_length)
open Ii (Ino)
open Jn (Chg Cl)
theorem encs_lay : ∀ (ps : List (List UInt8)) (k : Nat), encs k ps = Jn.layAt k ps
  | [], _ => rfl
  | p :: r, k => by rw [encs, Jn.layAt, encs_lay r (k + 1)]
def fmtP (n I : Int) (i : Nat) : List UInt8 := if i = 0 then Pl.superP n I else if i = 41 then bitsR else if i = 43 then rootP else zeros
structure Fmt (s : Dk.St) (n I : Int) : Prop where
  cl : Cl s
  lim : s.lim = false
  len : (s.last.length : Int) = n
  pages : ∀ i, i < s.last.length → s.last.getD i [] = fmtP n I i
theorem run_fine {s : Dk.St} {cs : List Chg} (h : Cl s) (hl : s.lim = false) (hv : Jn.Val s.last.length cs) : (Jn.runW s cs).2 = 0 ∧ Cl (Jn.runW s cs).1 ∧ (Jn.runW s cs).1.lim = false ∧ (Jn.runW s cs).1.last = Jn.upd s.last cs := by
  rcases Jn.runW_spec cs s h.ok h.up hv with ⟨a1, a2, a3, a4⟩ | ⟨_, a2, _⟩
  · exact ⟨a1, a2, a3.trans hl, by rw [a4, Jn.nows_clean h.clean]⟩
  · rw [hl] at a2; cases a2
theorem lay_val {n : Nat} {ps : List (List UInt8)} (h : ps.length ≤ n) (hp : ∀ p ∈ ps, p.length = 64) : Jn.Val n (encs 0 ps) := by
  rw [encs_lay]
  intro c hc
  obtain ⟨h1, h2, h3, h4⟩ := Jn.layAt_mem ps 0 c hc
  refine ⟨?_, hp _ h4⟩
  rw [h3]
  exact Dk.has_mk (by omega)
theorem bitsR_length : bitsR.length = 64 := by unfold bitsR; rw [Bt.setB_length]; exact zeros_length
theorem rootP_length : rootP.length = 64 := Ii.putN_length _ _ _ zeros_length (by omega)
theorem freshL_pages (I : Int) : ∀ p ∈ freshL I, p.length = 64 := fun p hp => by
  unfold freshL at hp
  rcases List.mem_or_eq_of_mem_set hp with hp | rfl
  · rcases List.mem_or_eq_of_mem_set hp with hp | rfl
    · rw [List.eq_of_mem_replicate hp]; exact zeros_length
    · exact bitsR_length
  · exact rootP_length
theorem freshL_len (I : Int) : (freshL I).length = (Pl.dataN I).toNat := by unfold freshL; simp
theorem freshL_at {n I : Int} (hd : 44 ≤ Pl.dataN I) (i : Nat) (hi : i < (Pl.dataN I).toNat) (h0 : i ≠ 0) : (freshL I).getD i [] = fmtP n I i := by
  unfold freshL fmtP
  rw [if_neg h0, List.getD_eq_getElem?_getD]
  by_cases c1 : i = 43
  · subst c1
    rw [List.getElem?_set_self (by simp; omega)]; rfl
  · rw [List.getElem?_set_ne (fun q => c1 q.symm)]
    by_cases c2 : i = 41
    · subst c2
      rw [List.getElem?_set_self (by simp; omega), if_pos rfl]; rfl
    · rw [List.getElem?_set_ne (fun q => c2 q.symm), if_neg c2, if_neg c1, List.getElem?_replicate, if_pos hi]; rfl
theorem fmt_made {N : Nat} {I : Int} (hpl : Pl.rightB (N : Int) I = true) :
    (Jn.runW (Dk.fresh N) (encs 0 (freshL I))).2 = 0 ∧ (Jn.runW (Jn.runW (Dk.fresh N) (encs 0 (freshL I))).1 (encs 0 [Pl.superP (N : Int) I])).2 = 0 ∧
    Fmt (Jn.runW (Jn.runW (Dk.fresh N) (encs 0 (freshL I))).1 (encs 0 [Pl.superP (N : Int) I])).1 (N : Int) I := by
  obtain ⟨h1, h2, h3, h4⟩ := Pl.right_yes hpl
  have hd := Pl.data_bd h1 h2
  have hc : Cl (Dk.fresh N) := fresh_cl (by omega) (by omega)
  have hlen := fresh_len N
  have hfl := freshL_len I
  obtain ⟨a1, a2, a3, a4⟩ := run_fine hc rfl (lay_val (ps := freshL I) (n := (Dk.fresh N).last.length) (by rw [hlen, hfl]; omega) (freshL_pages I))
  generalize (Jn.runW (Dk.fresh N) (encs 0 (freshL I))) = R1 at a1 a2 a3 a4 ⊢
  have hl1 : R1.1.last.length = N := by rw [a4, Jn.upd_length, hlen]
  obtain ⟨b1, b2, b3, b4⟩ := run_fine a2 a3 (lay_val (ps := [Pl.superP (N : Int) I]) (n := R1.1.last.length) (by rw [hl1]; simp; omega) (fun p hp => by rw [List.mem_singleton] at hp; subst hp; exact Pl.super_length _ _))
  refine ⟨a1, b1, ⟨b2, b3, by rw [b4, Jn.upd_length, hl1], fun i hi => ?_⟩⟩
  rw [b4, Jn.upd_length, hl1] at hi
  rw [b4, encs_lay]
  show (Jn.upd R1.1.last [⟨((0 : Nat) : Int), _⟩]).getD i [] = _
  by_cases h0 : i = 0
  · subst h0
    rw [Jn.upd_one_at (by omega)]
    unfold fmtP; rw [if_pos rfl]
  · rw [Jn.upd_one_other h0, a4, encs_lay]
    by_cases hD : i < (Pl.dataN I).toNat
    · have := Jn.upd_layAt (freshL I) 0 (Dk.fresh N).last i (by rw [hfl]; exact hD) (by rw [hlen, hfl]; omega)
      rw [Nat.zero_add] at this
      rw [this, freshL_at (n := (N : Int)) hd.1 i hD h0]
    · rw [Jn.upd_other _ _ _ (fun c hc => by
        obtain ⟨_, q2, _, _⟩ := Jn.layAt_mem _ _ _ hc
        rw [hfl] at q2; omega), fresh_at hi]
      unfold fmtP
      rw [if_neg h0, if_neg (by omega), if_neg (by omega)]
structure Dy (w : World) (d l m : Nat) (s : Dk.St) (W : World) : Prop where
  disk : DiskAt W d l m s
  only : Only [d, l, m] w W
theorem Dy.below {w W W' : World} {d l m : Nat} {s : Dk.St} (h : Dy w d l m s W) (hb : Below W.heap.size W W') : Dy w d l m s W' := ⟨h.disk.below hb, h.only.ofBelow hb⟩
theorem format_new {w : World} {d l m N : Nat} {I : Int} (h : DiskAt w d l m (Dk.fresh N)) (hpl : Pl.rightB (N : Int) I = true) : Calls Tryz.prog 22 #[.pointer (some ⟨d, 0, none⟩), .int .i64 I] w fun e w' => e = .returned (.int .i64 0) ∧ Only [d, l, m] w w' ∧ ∃ s, Fmt s (N : Int) I ∧ DiskAt w' d l m s := by
  obtain ⟨f1, f2, f3⟩ := fmt_made hpl
  have HF3 := Lib.hid f3
  have HD := Lib.hid (show Dy w d l m (Dk.fresh N) w from ⟨h, Only.refl _ _⟩)
  have HDN := Lib.hid (down_any h)
  have HPG := Lib.hid (pages_any h)
  rw [fresh_len] at HPG
  have hup : (Dk.fresh N).down = false := rfl
  rw [hup] at HDN
  have HSU : Hid (∀ W, Calls Tryz.prog 54 #[.agg #[.int .i64 (N : Int), .int .i64 I]] W fun e w' => e = .returned (.tuple #[pageV (Pl.superP (N : Int) I), .int .i64 0]) ∧ Below W.heap.size W w') := Lib.hid (fun W => super_yes (N : Int) I W hpl)
  have HFR : Hid (∀ W, Calls Tryz.prog 56 #[.agg #[.int .i64 (N : Int), .int .i64 I]] W fun e w' => ∃ g, e = .returned (.slice (some ⟨g, 0, none⟩) (freshL I).length (freshL I).length) ∧ Fr W (N : Int) I g (freshL I) w') := Lib.hid (fun W => fresh_any W hpl)
  have hll : (freshL I).length ≤ 1000 := by
    rw [freshL_len]
    obtain ⟨h1, h2, h3, h4⟩ := Pl.right_yes hpl
    have hd := Pl.data_bd h1 h2
    omega
  have HLD : Hid (d < w.heap.size ∧ l < w.heap.size ∧ m < w.heap.size) := Lib.hid ⟨h.dlt, h.llt, h.mlt⟩
  have HL1 : Hid (∀ W g c, Dy w d l m (Dk.fresh N) W → RowsAt W g (freshL I) → g < W.heap.size → w.heap.size ≤ g → Calls Tryz.prog 55 #[.pointer (some ⟨d, 0, none⟩), .slice (some ⟨g, 0, none⟩) (freshL I).length c] W fun e w' => e = .returned (.int .i64 0) ∧ Dy w d l m (Jn.runW (Dk.fresh N) (encs 0 (freshL I))).1 w' ∧ Only [d, l, m] W w') := Lib.hid (fun W g c hd hr hg hg2 => by
    have hh := HLD.out
    have := lay_any (c := c) hd.disk hr hg (by simp; omega) hll
    rw [f1] at this
    exact this.mono fun e w' hh => ⟨hh.1, ⟨hh.2.1, hd.only.trans hh.2.2⟩, hh.2.2⟩)
  have HL2 : Hid (∀ W g c, Dy w d l m (Jn.runW (Dk.fresh N) (encs 0 (freshL I))).1 W → RowsAt W g [Pl.superP (N : Int) I] → g < W.heap.size → w.heap.size ≤ g → Calls Tryz.prog 55 #[.pointer (some ⟨d, 0, none⟩), .slice (some ⟨g, 0, none⟩) 1 c] W fun e w' => e = .returned (.int .i64 0) ∧ Dy w d l m (Jn.runW (Jn.runW (Dk.fresh N) (encs 0 (freshL I))).1 (encs 0 [Pl.superP (N : Int) I])).1 w') := Lib.hid (fun W g c hd hr hg hg2 => by
    have hh := HLD.out
    have := lay_any (c := c) hd.disk hr hg (by simp; omega) (by simp)
    rw [f2] at this
    exact this.mono fun e w' hh => ⟨hh.1, hh.2.1, hd.only.trans hh.2.2⟩)
  have HSL : Hid ((Pl.superP (N : Int) I).length = 64) := Lib.hid (Pl.super_length _ _)
  clear h hpl hup f1 f2 f3 hll
  generalize Pl.superP (N : Int) I = sp at HSU HL2 HSL HF3
  generalize freshL I = fl at HFR HL1 HL2 HF3
  generalize (Jn.runW (Jn.runW (Dk.fresh N) (encs 0 fl)).1 (encs 0 [sp])).1 = s2 at HL2 HF3
  generalize (Jn.runW (Dk.fresh N) (encs 0 fl)).1 = s1 at HL1 HL2
  generalize Dk.fresh N = s0 at HD HL1
  have hbl : (byteVals sp).length = 64 := by rw [byteVals_length]; exact HSL.out
  have S0 := Lib.hid ((Lo.start (L := [d, l, m]) w (by have := HLD.out; simp; omega)).alloc _ rfl [.int .i64 (N : Int), .int .i64 I] 68)
  go_enter Tryz.func22, Tryz.ntmps22
  go_wp2_with (first
    | (go_at_call 52; (with_reducible refine HDN.out.mono ?_); rintro e w1 ⟨rfl, rfl⟩)
    | (go_at_call 53; (with_reducible refine HPG.out.mono ?_); rintro e w1 ⟨rfl, rfl⟩)
    | (go_at_call 54; (with_reducible refine (HSU.out _).mono ?_); rintro e w1 ⟨rfl, hb⟩; have S := Lib.hid (S0.out.below hb); have HD1 := Lib.hid ((HD.out.below (below_alloc _ _)).below hb); clear hb S0 HD)
    | ((with_reducible refine wpList_store_new rfl (.tmp 6) (.tmp 18) rfl rfl ?_ ?_ HSL.out ?_); (exact rfl); (exact rfl); intro W2 hP hB2 hz2; have S2 := Lib.hid (S.out.made hP.rowAt hB2 hz2); have HD2 := Lib.hid (HD1.out.below hB2); clear hP hB2 hz2 S HD1)
    | (with_reducible refine wpList_load_mid rfl 68 (.tmp 5) rfl _ 0 rfl [.int .i64 (N : Int), .int .i64 I] _ (S2.out.get 0 _ rfl).range Tryz.underlying68 rfl (by kernel_rfl) ?_)
    | (go_at_call 56; (with_reducible refine (HFR.out _).mono ?_); rintro e w3 ⟨g, rfl, hfr⟩; have S3 := Lib.hid (S2.out.below hfr.bel); have HD3 := Lib.hid (HD2.out.below hfr.bel); have hgw : w.heap.size ≤ g := (by have := S2.out.only.size; have := hfr.ge; omega); have HFP := Lib.hid hfr; clear hfr S2 HD2)
    | (go_at_call 55; (with_reducible refine (HL1.out _ g _ HD3.out HFP.out.rows HFP.out.lt hgw).mono ?_); rintro e w4 ⟨rfl, hd4, ho4⟩; have S4 := Lib.hid (S3.out.call ho4 (fun k hk => hk)); have HD4 := Lib.hid hd4; clear hd4 ho4 S3 HD3 HFP)
    | (with_reducible refine wpList_load_mid rfl 97 (.tmp 6) rfl _ 0 rfl (byteVals sp) _ (S4.out.get 1 _ rfl).range Tryz.underlying97 rfl (by rw [page_info, byteVals_length, HSL.out]) ?_))
  rw [fold_page rfl HSL.out]
  have HR5 : Hid (RowsAt (w4.alloc (.cells (byteVals sp).toArray 97)) w4.heap.size [sp]) := Lib.hid (by
    have hr := rowAt_new w4 (byteVals sp) 97
    refine ⟨fun p hp => by rw [List.mem_singleton] at hp; subst hp; exact HSL.out, fun i p hp => ?_, ?_⟩
    · have hi : i = 0 := by have := (List.getElem?_eq_some_iff.1 hp).1; simpa using this
      subst hi
      simp only [List.getElem?_cons_zero, Option.some.injEq] at hp
      subst hp
      exact hr.range
    · have := hr.free
      rw [hbl] at this
      exact this)
  have HD5 := Lib.hid (HD4.out.below (below_alloc w4 (.cells (byteVals sp).toArray 97)))
  have hg5 : w4.heap.size < (w4.alloc (.cells (byteVals sp).toArray 97)).heap.size := by simp
  have hg6 := S4.out.only.size
  generalize World.alloc _ _ = w5 at HR5 HD5 hg5 ⊢
  go_wp2_with (go_at_call 55; (with_reducible refine (HL2.out _ _ _ HD5.out HR5.out hg5 hg6).mono ?_); rintro e w6 ⟨rfl, hd6⟩)
  go_ret
  exact ⟨rfl, hd6.only, s2, HF3.out, hd6.disk⟩
end

section
open Dk (zeros zeros_length)
open Go.RowKit
structure LRdS (w0 : World) (x : List UInt8) (W : World) : Prop where
  page : PageAt W w0.heap.size x
  res : RowAt W (w0.heap.size + 1) (planL 0 0)
  below : Below w0.heap.size w0 W
theorem LRdS.call {w0 : World} {x : List UInt8} {W W' : World} (k : LRdS w0 x W) (hb : Below W.heap.size W W') : LRdS w0 x W' :=
  ⟨k.page.step hb, k.res.step hb, k.below.trans (hb.mono k.below.size)⟩
theorem LRdS.drew {w0 : World} {x : List UInt8} {W : World} (k : LRdS w0 x W) : LRdS w0 x W.drew := ⟨k.page.drew, k.res.drew, k.below.drew⟩
def RfS (w0 : World) (x : List UInt8) (p i : Int) : Option (Nat × Bool) → World → Prop
  | none, W => LRdS w0 x W
  | some (g, b), W => LRdS w0 x W ∧ w0.heap.size + 1 < g ∧ RowAt W g (if b then planL p i else planL 0 0)
theorem RfS.base {w0 : World} {x : List UInt8} {p i : Int} {s : Option (Nat × Bool)} {W : World} (k : RfS w0 x p i s W) : LRdS w0 x W := by
  cases s with
  | none => exact k
  | some gb => exact k.1
theorem RfS.call {w0 : World} {x : List UInt8} {p i : Int} {s : Option (Nat × Bool)} {W W' : World} (k : RfS w0 x p i s W) (hb : Below W.heap.size W W') : RfS w0 x p i s W' := by
  cases s with
  | none => exact LRdS.call k hb
  | some gb =>
    obtain ⟨g, b⟩ := gb
    obtain ⟨h1, h2, h3⟩ := k
    refine ⟨h1.call hb, h2, ?_⟩
    cases b <;> exact RowAt.step h3 hb
theorem read_box (w : World) (x : List UInt8) (hx : x.length = 64) : LRdS w x ((w.alloc (.cells (byteVals x).toArray 97)).alloc (.cells #[.int .i64 0, .int .i64 0] 68)) := by
  have h0 := (pageAt_new w x 97 hx).alloc (.cells #[.int .i64 0, .int .i64 0] 68)
  have h1 := rowAt_new (w.alloc (.cells (byteVals x).toArray 97)) (planL 0 0) 68
  rw [World.size_alloc] at h1
  exact ⟨h0, h1, ((Below.refl _ _).alloc (Nat.le_refl _) _).alloc (by simp) _⟩
theorem LRdS.alloc {w0 : World} {x : List UInt8} {p i : Int} {W : World} (k : LRdS w0 x W) : RfS w0 x p i (some (W.heap.size, false)) (W.alloc (.cells #[.int .i64 0, .int .i64 0] 68)) :=
  ⟨⟨k.page.alloc _, k.res.alloc _, k.below.alloc k.below.size _⟩, RowAt.lt k.res, rowAt_new W (planL 0 0) _⟩
theorem RfS.put {w0 : World} {x : List UInt8} {p i : Int} {g : Nat} {W : World} (k : RfS w0 x p i (some (g, false)) W) : RfS w0 x p i (some (g, true)) (W.setCells g 0 (planL p i)) := by
  obtain ⟨h1, h2, h3⟩ := k
  exact ⟨⟨h1.page.put_other _ _ _ (by omega), h1.res.put_other _ _ _ (by omega), below_setCells _ (by omega) _ _ _ h1.below⟩, h2, RowAt.put h3 _ rfl⟩
theorem LRdS.back {w0 : World} {x : List UInt8} {W : World} (k : LRdS w0 x W) (p i : Int) : RowAt (W.setCells (w0.heap.size + 1) 0 (planL p i)) (w0.heap.size + 1) (planL p i) ∧ Below w0.heap.size w0 (W.setCells (w0.heap.size + 1) 0 (planL p i)) :=
  ⟨k.res.put _ rfl, below_setCells _ (by omega) _ _ _ k.below⟩
theorem lread_any (x : List UInt8) (w : World) (hx : x.length = 64) :
    Calls Tryz.prog 101 #[pageV x] w fun e w' => e = .returned (if Pl.readB x = true then .tuple #[planV (Pg.getN x 4 2) (Pg.getN x 6 2), .int .i64 0] else .tuple #[planV 0 0, .int .i64 22]) ∧ Below w.heap.size w w' := by
  have G4 := Lib.hid (fun (w : World) => get_any x 4 2 w hx (by omega) (by omega))
  have G6 := Lib.hid (fun (w : World) => get_any x 6 2 w hx (by omega) (by omega))
  have HR : Hid (Pl.readB x = (Pl.rightB (Pg.getN x 4 2) (Pg.getN x 6 2) && decide (Pl.superP (Pg.getN x 4 2) (Pg.getN x 6 2) = x))) := Lib.hid rfl
  have HS := Lib.hid (read_box w x hx)
  generalize Pl.readB x = r at HR ⊢
  generalize Pg.getN x 4 2 = p at *
  generalize Pg.getN x 6 2 = i at *
  unfold pageV
  go_enter Tryz.func101, Tryz.ntmps101
  go_wp2_with fail
  rw [pageV_def]
  refine wp_region_lin (RfS w x p i) (fun i => i == 5 || i == 6) (fun n => [pageV x, .int .i64 p, pageV x, .int .i64 i, planV p i].getD n undef) (none) (by kernel_rfl) (by kernel_rfl) (LRdS.drew HS.out) ?_
  refine lin_step (i := 0) (d := some 7) (v := pageV x) rfl rfl (by kernel_rfl) (by kernel_rfl) rfl rfl (ord_page (by kernel_rfl) (.tmp 1) rfl rfl (fun _ _ hS => (RfS.base hS).page)) ?_
  (try simp only [Act.put, puA, puB, puC])
  refine lin_step (i := 1) (d := some 8) (v := .int .i64 p) rfl rfl (by kernel_rfl) (by kernel_rfl) rfl rfl (ord_call (f := 142) (args := #[pageV x, .int .i64 4, .int .i64 2]) (by kernel_rfl) ?_ (fun _ _ hS => (G4.out _).mono fun _ _ ⟨he, hb⟩ => ⟨he, RfS.call hS hb⟩)) ?_
  · intro _; go_simp
  (try simp only [Act.put, puA, puB, puC])
  refine lin_step (i := 2) (d := some 9) (v := pageV x) rfl rfl (by kernel_rfl) (by kernel_rfl) rfl rfl (ord_page (by kernel_rfl) (.tmp 1) rfl rfl (fun _ _ hS => (RfS.base hS).page)) ?_
  (try simp only [Act.put, puA, puB, puC])
  refine lin_step (i := 3) (d := some 10) (v := .int .i64 i) rfl rfl (by kernel_rfl) (by kernel_rfl) rfl rfl (ord_call (f := 142) (args := #[pageV x, .int .i64 6, .int .i64 2]) (by kernel_rfl) ?_ (fun _ _ hS => (G6.out _).mono fun _ _ ⟨he, hb⟩ => ⟨he, RfS.call hS hb⟩)) ?_
  · intro _; go_simp
  (try simp only [Act.put, puA, puB, puC])
  refine lin_step (i := 4) (d := some 11) (v := planV p i) rfl rfl (by kernel_rfl) (by kernel_rfl) rfl rfl (ord_value (by kernel_rfl) ?_) ?_
  · intro _ _ _; go_simp; rfl
  (try simp only [Act.put, puA, puB, puC])
  refine lin_turn (i := 5) (d := some 4) (fun u s => ∃ g, w.heap.size + 1 < g ∧ u = .pointer (some ⟨g, 0, none⟩) ∧ s = some (g, false)) rfl rfl (by kernel_rfl) (by kernel_rfl) rfl (by kernel_rfl) (⟨_, _, w.heap.size + 2, by omega, rfl, rfl⟩) (by kernel_rfl) (fun W hS => gives_to (v := .pointer (some ⟨W.heap.size, 0, none⟩)) (w' := W.alloc (.cells #[.int .i64 0, .int .i64 0] 68)) (by go_simp) ⟨some (W.heap.size, false), ⟨W.heap.size, RowAt.lt (LRdS.res hS), rfl, rfl⟩, LRdS.alloc hS⟩) ?_
  rintro _ _ ⟨g, hg, rfl, rfl⟩
  (try simp only [Act.put, puA, puB, puC])
  refine lin_turn (i := 6) (d := none) (fun u s => u = undef ∧ s = some (g, true)) rfl rfl (by kernel_rfl) (by kernel_rfl) rfl (by kernel_rfl) (⟨_, _, rfl, rfl⟩) (by kernel_rfl) (fun W hS => gives_store_row planT (us := planL 0 0) (vs := planL p i) hS.2.2 rfl rfl (planL_one p i) (.tmp 4) (.tmp 11) rfl rfl rfl ⟨some (g, true), ⟨rfl, rfl⟩, RfS.put hS⟩) ?_
  rintro _ _ ⟨rfl, rfl⟩
  (try simp only [Act.put, puA, puB, puC])
  refine lin_done (by kernel_rfl) ?_
  intro W2 hS
  have S2 : Hid (LRdS w x W2) := Lib.hid hS.1
  have H2 : Hid (RowAt W2 g (planL p i)) := Lib.hid hS.2.2
  clear hS G4 G6 HS
  have HQ : Hid (pageV x = .agg (byteVals x).toArray) := Lib.hid rfl
  cases hr : Pl.rightB p i with
  | false =>
    have hr0 : r = false := by have := HR.out; rw [hr] at this; simpa using this
    subst hr0
    have HN := Lib.hid (fun w => super_no p i w hr)
    have LZ := Lib.hid zeros_length
    clear HR hr HQ
    generalize zeros = z at HN LZ
    go_wp2_with (first
      | (with_reducible refine wpList_load_rw planT H2.out rfl rfl (.tmp 4) rfl rfl ?_)
      | (go_at_call 54; refine (HN.out _).mono ?_; rintro e w3 ⟨rfl, hb3⟩; have S3 := Lib.hid (S2.out.call hb3); clear S2 H2 HN hb3)
      | ((with_reducible refine wpList_store_new rfl (.tmp 5) (.tmp 15) rfl rfl ?_ ?_ LZ.out ?_); (exact rfl); (exact rfl); intro W4 hP hb4 hz4; have S4 := Lib.hid (S3.out.call hb4); clear S3 hP hb4 hz4)
      | ((with_reducible refine wpList_store_rw planT (vs := planL 0 0) S4.out.res rfl rfl (planL_one 0 0) rfl (.tmp 2) (.tmp 24) rfl rfl ?_ ?_); (exact rfl)))
    have hq := S4.out.back 0 0
    exact bodyPost_ret (results_row2 planT _ 2 3 rfl _ hq.1 rfl rfl rfl) rfl ⟨rfl, hq.2⟩
  | true =>
    have HN := Lib.hid (fun w => super_yes p i w hr)
    have LZ := Lib.hid (Pl.super_length p i)
    by_cases hx2 : Pl.superP p i = x
    · have hr0 : r = true := by have := HR.out; rw [hr, hx2] at this; simpa using this
      subst hr0
      rw [hx2] at HN LZ
      have E1 := fun (a b : Operand) (w : World) => run_neGuard_page w a b x x
      have E2 := fun (w : World) => run_neq_same w x hx
      clear HR hr HQ hx2
      go_wp2_with (first
        | (with_reducible refine wpList_load_rw planT H2.out rfl rfl (.tmp 4) rfl rfl ?_)
        | (go_at_call 54; refine (HN.out _).mono ?_; rintro e w3 ⟨rfl, hb3⟩; have S3 := Lib.hid (S2.out.call hb3); have H3 := Lib.hid (RowAt.step H2.out hb3); clear S2 H2 HN hb3)
        | ((with_reducible refine wpList_store_new rfl (.tmp 5) (.tmp 15) rfl rfl ?_ ?_ LZ.out ?_); (exact rfl); (exact rfl); intro W4 hP hb4 hz4; have S4 := Lib.hid (S3.out.call hb4); have H4 := Lib.hid (RowAt.step H3.out hb4); have P4 := Lib.hid hP; clear S3 H3 hP hb4 hz4; generalize w3.heap.size = D at P4 ⊢)
        | ((with_reducible refine wpList_load_guarded P4.out (.tmp 5) rfl rfl ?_ ?_); (exact rfl))
        | ((with_reducible refine wpList_load_guarded S4.out.page (.tmp 1) rfl rfl ?_ ?_); (exact rfl))
        | (with_reducible refine wpList_load_rw planT H4.out rfl rfl (.tmp 4) rfl rfl ?_)
        | ((with_reducible refine wpList_store_rw planT (vs := planL p i) S4.out.res rfl rfl (planL_one p i) rfl (.tmp 2) (.tmp 25) rfl rfl ?_ ?_); (exact rfl)))
      have hq := S4.out.back p i
      exact bodyPost_ret (results_row2 planT _ 2 3 rfl _ hq.1 rfl rfl rfl) rfl ⟨rfl, hq.2⟩
    · have hr0 : r = false := by have := HR.out; rw [hr, decide_eq_false hx2] at this; simpa using this
      subst hr0
      have E1 := fun (a b : Operand) (w : World) => run_neGuard_page w a b (Pl.superP p i) x
      have E2 : ∀ (w : World), (binOp .neq 97 (pageV (Pl.superP p i)) (pageV x)).run Tryz.prog w = .ok (.bool true) w := fun (w : World) => by
        rw [run_neq_page w (Pl.superP p i) x (Pl.super_length p i) hx, decide_eq_false hx2]; rfl
      clear HR hr HQ hx2
      generalize Pl.superP p i = z at HN LZ E1 E2
      go_wp2_with (first
        | (with_reducible refine wpList_load_rw planT H2.out rfl rfl (.tmp 4) rfl rfl ?_)
        | (go_at_call 54; refine (HN.out _).mono ?_; rintro e w3 ⟨rfl, hb3⟩; have S3 := Lib.hid (S2.out.call hb3); clear S2 H2 HN hb3)
        | ((with_reducible refine wpList_store_new rfl (.tmp 5) (.tmp 15) rfl rfl ?_ ?_ LZ.out ?_); (exact rfl); (exact rfl); intro W4 hP hb4 hz4; have S4 := Lib.hid (S3.out.call hb4); have P4 := Lib.hid hP; clear S3 hP hb4 hz4; generalize w3.heap.size = D at P4 ⊢)
        | ((with_reducible refine wpList_load_guarded P4.out (.tmp 5) rfl rfl ?_ ?_); (exact rfl))
        | ((with_reducible refine wpList_load_guarded S4.out.page (.tmp 1) rfl rfl ?_ ?_); (exact rfl))
        | ((with_reducible refine wpList_store_rw planT (vs := planL 0 0) S4.out.res rfl rfl (planL_one 0 0) rfl (.tmp 2) (.tmp 24) rfl rfl ?_ ?_); (exact rfl)))
      have hq := S4.out.back 0 0
      exact bodyPost_ret (results_row2 planT _ 2 3 rfl _ hq.1 rfl rfl rfl) rfl ⟨rfl, hq.2⟩
end

section
open Go.RowKit Go.Maps
open Dk (zeros zeros_length)
open Ii (Ino)
open Jn (Chg Cl)
theorem planOf_yes {w : World} {d l m : Nat} {s : Dk.St} {n I : Int} (h : DiskAt w d l m s) (hc : Cl s) (hn : (s.last.length : Int) = n) (hp : s.last.getD 0 [] = Pl.superP n I) (hpl : Pl.rightB n I = true) : Calls Tryz.prog 57 #[.pointer (some ⟨d, 0, none⟩)] w fun e w' => e = .returned (.tuple #[planV n I, .int .i64 0]) ∧ Below w.heap.size w w' := by
  obtain ⟨h1, h2, h3, h4⟩ := Pl.right_yes hpl
  have hd := Pl.data_bd h1 h2
  obtain ⟨q1, q2, q3⟩ := Pl.read_super n I hpl
  have HRD : Hid (∀ W, Below w.heap.size w W → Calls Tryz.prog 100 #[.pointer (some ⟨d, 0, none⟩), .int .i64 0] W fun e w' => e = .returned (.tuple #[pageV (Pl.superP n I), .int .i64 0]) ∧ Below W.heap.size W w') := Lib.hid (fun W hb => by
    have := read_any (h.below hb) 0
    have e1 : Dk.reachE s 0 = 0 := Dk.reach_mk hc.up (Dk.has_mk (k := 0) (by omega))
    have e2 : Dk.readP s ((0 : Nat) : Int) = s.last.getD 0 [] := read_clean hc (by omega)
    have e3 : Dk.readP s 0 = Pl.superP n I := e2.trans hp
    rw [e1, e3] at this
    exact this)
  have HPR : Hid (∀ W, Calls Tryz.prog 101 #[pageV (Pl.superP n I)] W fun e w' => e = .returned (.tuple #[.agg #[.int .i64 n, .int .i64 I], .int .i64 0]) ∧ Below W.heap.size W w') := Lib.hid (fun W => by
    have := lread_any (Pl.superP n I) W (Pl.super_length _ _)
    rw [q1, if_pos rfl, q2, q3] at this
    exact this)
  have HPG : Hid (∀ W, Below w.heap.size w W → Calls Tryz.prog 53 #[.pointer (some ⟨d, 0, none⟩)] W fun e w' => e = .returned (.int .i64 n) ∧ W = w') := Lib.hid (fun W hb => by
    have := pages_any (h.below hb)
    rw [hn] at this
    exact this)
  have HSL : Hid ((Pl.superP n I).length = 64) := Lib.hid (Pl.super_length _ _)
  have S := Lib.hid ((Lo.start (L := []) w (by simp)).alloc _ rfl [.int .i64 0, .int .i64 0] 68)
  clear h hc hp hpl h1 h2 h3 h4 hd q1 q2 q3
  generalize Pl.superP n I = sp at HRD HPR HSL
  go_enter Tryz.func57, Tryz.ntmps57
  go_wp2_with fail
  generalize hw : World.alloc _ _ = w1
  have S1 : Hid (Lo [] w [(w.heap.size, [.int .i64 0, .int .i64 0])] w1) := Lib.hid (by rw [← hw]; exact S.out)
  clear hw S
  go_wp2_with (first
    | (go_at_call 100; (with_reducible refine (HRD.out _ S1.out.bel).mono ?_); rintro e w2 ⟨rfl, hb⟩; replace S1 := Lib.hid (S1.out.below hb); clear hb)
    | ((with_reducible refine wpList_store_new rfl (.tmp 4) (.tmp 10) rfl rfl ?_ ?_ HSL.out ?_); (exact rfl); (exact rfl); intro W2 hP hB2 hz2; have S2 := Lib.hid (S1.out.made hP.rowAt hB2 hz2); clear hP hB2 hz2 S1)
    | (with_reducible refine wpList_load_page (S2.out.page 1 rfl HSL.out) rfl (.tmp 4) rfl rfl ?_)
    | (go_at_call 101; (with_reducible refine (HPR.out _).mono ?_); rintro e w2 ⟨rfl, hb⟩; replace S2 := Lib.hid (S2.out.below hb); clear hb)
    | ((with_reducible refine wpList_store_newrow (vs := [.int .i64 n, .int .i64 I]) planT2 ?_ (planL_one2 n I) rfl (.tmp 6) (.tmp 19) rfl rfl ?_ ?_ ?_); (exact rfl); (exact rfl); (exact rfl); intro W2 hP hB2 hz2; have S3 := Lib.hid (S2.out.made hP hB2 hz2); clear hP hB2 hz2 S2))
  have c0 := (S3.out.get 2 _ rfl).cell 0 _ rfl
  go_quiet ((go_at_call 53; refine Calls.quiet_of_same ((HPG.out _ (S3.out.drewN _).bel).mono fun e w' h => ⟨h.1, h.2.symm⟩)))
  have S4 := Lib.hid (S3.out.drewN nq)
  generalize World.drewN _ _ = W5 at S4 ⊢
  go_wp2_with (first
    | (with_reducible refine wpList_load_mid rfl 68 (.tmp 6) rfl _ 0 rfl [.int .i64 n, .int .i64 I] _ (S4.out.get 2 _ rfl).range Tryz.underlying68 rfl (by kernel_rfl) ?_)
    | ((with_reducible refine wpList_store_rw (vs := [.int .i64 n, .int .i64 I]) planT2 (S4.out.get 0 _ rfl) ?_ ?_ (planL_one2 n I) rfl (.tmp 2) (.tmp 31) rfl ?_ ?_ ?_); (exact rfl); (exact rfl); (exact rfl); (exact rfl)))
  have S5 := Lib.hid (S4.out.put 0 _ rfl [.int .i64 n, .int .i64 I] rfl)
  exact bodyPost_ret (results_row2 planT2 _ 2 3 rfl _ (S5.out.get 0 _ rfl) rfl rfl rfl) rfl ⟨rfl, S5.out.bel⟩
end

section
open Go.RowKit Go.Maps
open Dk (zeros zeros_length)
open Ii (Ino)
open Jn (Chg Cl)
theorem rooted_yes {w : World} {V : Nat} {b : Blk} {s : Sto} {n I k : Int} (h : VolAt w V b s n I k) (v : Vs s n I) (h1 : (Fs.inoAt (nv s) 1).k = 2) (h2 : (Fs.inoAt (nv s) 1).l ≠ 0) : Calls Tryz.prog 60 #[.pointer (some ⟨V, 0, none⟩)] w fun e w' => e = .returned (.int .i64 0) ∧ Below w.heap.size w w' := by
  have HI := Lib.hid (binode_yes h.store v 1 (by decide) v.bd.1)
  have HR := Lib.hid h.row
  generalize Fs.inoAt (nv s) 1 = x at h1 h2 HI
  have g2 : (x.l == 0) = false := by simpa using h2
  have g1 : (x.k != 2) = false := by rw [h1]; rfl
  have g3 : (x.k == 2) = true := by rw [h1]; rfl
  have S0 := Lib.hid (Lo.start (L := []) w (by simp))
  clear h v
  unfold baseV at HI
  go_enter Tryz.func60, Tryz.ntmps60
  go_wp2_with (first
    | (with_reducible refine wpList_load_mid rfl 70 (.tmp 8) rfl V 0 rfl [.pointer (some ⟨b.s, 0, none⟩), .int .i64 n, .int .i64 I] _ HR.out.base Tryz.underlying70 rfl (by kernel_rfl) ?_)
    | (go_at_call 80; refine HI.out.mono ?_; rintro e w1 ⟨rfl, hb⟩; replace S0 := Lib.hid (S0.out.below hb); clear hb)
    | ((with_reducible refine wpList_store_newrow (vs := inoL x) inoT ?_ (inoL_one _) rfl (.tmp 3) (.tmp 11) rfl rfl ?_ ?_ ?_); (exact rfl); (exact rfl); (exact rfl); intro W4 hP hB2 hz2; have S1 := Lib.hid (S0.out.made hP hB2 hz2); clear hP hB2 hz2; have ck := (S1.out.get 0 _ rfl).cell 0 _ rfl; have cl := (S1.out.get 0 _ rfl).cell 3 _ rfl))
  go_ret
  exact ⟨rfl, S1.out.bel⟩
def TdS (w : World) (V : Nat) (b : Blk) (n I : Int) (s : Sto) (C : Nat) (i : Int) (x : Ino) : Option (Bool × Nat) → World → Prop
  | none, W => Lo (V :: b.all) w [(C, [.int .i64 i])] W ∧ VolAt W V b s n I 0
  | some (z, a), W => Lo (V :: b.all) w [(C, [.int .i64 i]), (a, if z = true then inoL x else inoL Ii.zero)] W ∧ VolAt W V b s n I 0
section
variable {w W W' : World} {V : Nat} {b : Blk} {n I : Int} {s : Sto} {C : Nat} {i : Int} {x : Ino}
theorem TdS.below : ∀ {k : Option (Bool × Nat)}, TdS w V b n I s C i x k W → Below W.heap.size W W' → TdS w V b n I s C i x k W'
  | none, h, hb => ⟨h.1.below hb, h.2.below hb⟩
  | some _, h, hb => ⟨h.1.below hb, h.2.below hb⟩
theorem TdS.vol : ∀ {k : Option (Bool × Nat)}, TdS w V b n I s C i x k W → VolAt W V b s n I 0
  | none, h => h.2
  | some _, h => h.2
theorem TdS.cell : ∀ {k : Option (Bool × Nat)}, TdS w V b n I s C i x k W → W.cell? ⟨C, 0, none⟩ = some (.int .i64 i)
  | none, h => (h.1.get 0 _ rfl).cell 0 _ rfl
  | some _, h => (h.1.get 0 _ rfl).cell 0 _ rfl
end
def tidyMs (I : Int) (p : Value) (w : World) : Nat := match p with
  | .pointer (some a) => match w.cell? a with
    | some (.int _ i) => (I + 1 - i).toNat
    | _ => 0
  | _ => 0
structure TidyJ (n I : Int) (J : Nat → Sto → Prop) : Prop where
  vs : ∀ k s, J k s → Vs s n I ∧ s.q < 4294967290
  skip : ∀ k s, J k s → (k : Int) + 1 ≤ I → ((Fs.inoAt (nv s) ((k : Int) + 1)).k = 0 ∨ 0 < (Fs.inoAt (nv s) ((k : Int) + 1)).l) → J (k + 1) s
  none : ∀ k s, J k s → (k : Int) + 1 ≤ I → ((Fs.inoAt (nv s) ((k : Int) + 1)).k = 0 ∨ 0 < (Fs.inoAt (nv s) ((k : Int) + 1)).l)
theorem tidy_rel {w W wr : World} {V : Nat} {b : Blk} {n I : Int} {J : Nat → Sto → Prop} {l : List (Nat × List Value)} {s2 : Sto} {k C : Nat} (S : Lo (V :: b.all) w l W) (HV : VolAt W V b s2 n I 0) (hJ : J (k + 1) s2) (hk : (k : Int) + 1 ≤ I) (hC : wr.cell? ⟨C, 0, none⟩ = some (.int .i64 ((k : Int) + 1))) :
    (∃ (C2 k2 : Nat) (s' : Sto), (k2 : Int) ≤ I ∧ Value.pointer (some ⟨W.heap.size, 0, none⟩) = .pointer (some ⟨C2, 0, none⟩) ∧ Hid (Lo (V :: b.all) w [(C2, [.int .i64 ((k2 : Int) + 1)])] (W.alloc (.cells #[.int .i64 ((k : Int) + 1 + 1)] 3))) ∧ Hid (VolAt (W.alloc (.cells #[.int .i64 ((k : Int) + 1 + 1)] 3)) V b s' n I 0) ∧ Hid (J k2 s')) ∧
    tidyMs I (.pointer (some ⟨W.heap.size, 0, none⟩)) (W.alloc (.cells #[.int .i64 ((k : Int) + 1 + 1)] 3)) < tidyMs I (.pointer (some ⟨C, 0, none⟩)) wr := by
  have S9 := (S.cut 0).alloc W.heap.size rfl [.int .i64 ((k : Int) + 1 + 1)] 3
  have c9 := (S9.get 0 _ rfl).cell 0 _ rfl
  refine ⟨⟨W.heap.size, k + 1, s2, by omega, rfl, Lib.hid (by rw [show ((k + 1 : Nat) : Int) + 1 = (k : Int) + 1 + 1 by omega]; exact S9), Lib.hid (HV.alloc _), Lib.hid hJ⟩, ?_⟩
  have e1 : tidyMs I (.pointer (some ⟨C, 0, none⟩)) wr = (I + 1 - ((k : Int) + 1)).toNat := by unfold tidyMs; simp only [hC]
  have e2 : tidyMs I (.pointer (some ⟨W.heap.size, 0, none⟩)) (W.alloc (.cells #[.int .i64 ((k : Int) + 1 + 1)] 3)) = (I + 1 - ((k : Int) + 1 + 1)).toNat := by
    have : (W.alloc (.cells #[.int .i64 ((k : Int) + 1 + 1)] 3)).cell? ⟨W.heap.size, 0, none⟩ = some (.int .i64 ((k : Int) + 1 + 1)) := c9
    unfold tidyMs; simp only [this]
  rw [e1, e2]
  omega
theorem tidy_any {w : World} {V : Nat} {b : Blk} {s : Sto} {n I : Int} (h : VolAt w V b s n I 0) (J : Nat → Sto → Prop) (hJ : TidyJ n I J) (h0 : J 0 s) : Calls Tryz.prog 61 #[.pointer (some ⟨V, 0, none⟩)] w fun e w' => ∃ s2, J I.toNat s2 ∧ e = .returned (.int .i64 (ssyncE s2)) ∧ VolAt w' V b (ssync s2) n I 0 ∧ Only (V :: b.all) w w' := by
  have hI := (hJ.vs _ _ h0).1.bd
  have hlt := h.row.lt
  have HJ := Lib.hid hJ
  have S0 := Lib.hid ((Lo.start (L := V :: b.all) w (fun k hk => by
    rcases List.mem_cons.1 hk with rfl | hk
    · exact hlt
    · exact h.store.lt k hk)).alloc _ rfl [.int .i64 1] 3)
  have HV0 := Lib.hid (h.alloc (.cells [.int .i64 1].toArray 3))
  have HNB := Lib.hid h.nb
  have HBL : Hid (∀ k ∈ b.all, k < w.heap.size) := Lib.hid (fun k hk => h.store.lt k hk)
  go_enter Tryz.func61, Tryz.ntmps61
  go_wp2_with fail
  go_loopw [3] (fun p wr => ∃ (C k : Nat) (s' : Sto), (k : Int) ≤ I ∧ p = .pointer (some ⟨C, 0, none⟩) ∧ Hid (Lo (V :: b.all) w [(C, [.int .i64 ((k : Int) + 1)])] wr) ∧ Hid (VolAt wr V b s' n I 0) ∧ Hid (J k s')) (fun p wr => tidyMs I p wr)
  case atStart => exact ⟨_, 0, s, by omega, rfl, Lib.hid (by exact S0.out), Lib.hid (by exact HV0.out), Lib.hid h0⟩
  case round =>
    clear S0 HV0 h0 h
    obtain ⟨C, k, s', hk, rfl, S, HV, HJk⟩ := hrel
    have cC := (S.out.get 0 _ rfl).cell 0 _ rfl
    have cI : wr.cell? ⟨V, 2, none⟩ = some (.int .i64 I) := HV.out.row.cell 2 _ rfl
    have HCW := Lib.hid cC
    by_cases hlt2 : (k : Int) + 1 ≤ I
    · go_wp2_with fail
      go_quiet (fail)
      replace S := Lib.hid (S.out.drewN nq)
      replace HV := Lib.hid (HV.out.below (below_drewN _ nq))
      clear cC cI
      generalize World.drewN _ _ = w1 at S HV ⊢
      have HI : Hid (∀ kk W, TdS w V b n I s' C ((k : Int) + 1) (Fs.inoAt (nv s') ((k : Int) + 1)) kk W → Calls Tryz.prog 80 #[.agg #[.pointer (some ⟨b.s, 0, none⟩), .int .i64 n, .int .i64 I], .int .i64 ((k : Int) + 1)] W fun e w' => e = .returned (.tuple #[inoV (Fs.inoAt (nv s') ((k : Int) + 1)), .int .i64 0]) ∧ TdS w V b n I s' C ((k : Int) + 1) (Fs.inoAt (nv s') ((k : Int) + 1)) kk w') := Lib.hid (fun kk W hS => by
        have := binode_yes hS.vol.store (HJ.out.vs _ _ HJk.out).1 ((k : Int) + 1) (by omega) hlt2
        exact this.mono fun e w' hh => ⟨hh.1, hS.below hh.2⟩)
      have HSK := Lib.hid (HJ.out.skip k s' HJk.out hlt2)
      have HST := Lib.hid (HJ.out.none k s' HJk.out hlt2)
      have hvs := (HJ.out.vs _ _ HJk.out)
      generalize Fs.inoAt (nv s') ((k : Int) + 1) = x at HI HSK HST
      go_wp2_with fail
      refine wp_region_linp (TdS w V b n I s' C ((k : Int) + 1) x) (fun _ _ => False) (fun i => i == 9 || i == 10) (fun i => [.pointer (some ⟨V, 0, none⟩), .pointer (some ⟨V, 0, none⟩), .pointer (some ⟨V, 0, none⟩), .agg #[.pointer (some ⟨b.s, 0, none⟩), .int .i64 n, .int .i64 I], .int .i64 ((k : Int) + 1), .tuple #[inoV x, .int .i64 0], .tuple #[inoV x, .int .i64 0], inoV x, .int .i64 0, undef, undef, .int .i64 0].getD i undef) none (by kernel_rfl) (by kernel_rfl) (fun _ _ _ _ h => h.elim) (show TdS w V b n I s' C ((k : Int) + 1) x none _ from TdS.below (k := none) ⟨S.out, HV.out⟩ ((Below.refl _ _).drew)) ?_
      refine linp_step (i := 0) (d := some 18) (v := (.pointer (some ⟨V, 0, none⟩))) rfl rfl (by kernel_rfl) (by kernel_rfl) rfl rfl (ord_value (by kernel_rfl) ?_) ?_
      · ((intro _ _ _; go_simp) <;> kernel_rfl)
      try simp only [Act.put, puA, puB, puC]
      refine linp_step (i := 1) (d := some 19) (v := (.pointer (some ⟨V, 0, none⟩))) rfl rfl (by kernel_rfl) (by kernel_rfl) rfl rfl (ord_value (by kernel_rfl) ?_) ?_
      · ((intro _ _ _; go_simp) <;> kernel_rfl)
      try simp only [Act.put, puA, puB, puC]
      refine linp_step (i := 2) (d := some 20) (v := (.pointer (some ⟨V, 0, none⟩))) rfl rfl (by kernel_rfl) (by kernel_rfl) rfl rfl (ord_value (by kernel_rfl) ?_) ?_
      · ((intro _ _ _; go_simp) <;> kernel_rfl)
      try simp only [Act.put, puA, puB, puC]
      refine linp_step (i := 3) (d := some 21) (v := (.agg #[.pointer (some ⟨b.s, 0, none⟩), .int .i64 n, .int .i64 I])) rfl rfl (by kernel_rfl) (by kernel_rfl) rfl rfl (ord_mid loads_base (by kernel_rfl) (.tmp 20) rfl rfl (fun kk W hS => (TdS.vol hS).row.base)) ?_
      try simp only [Act.put, puA, puB, puC]
      refine linp_step (i := 4) (d := some 22) (v := (.int .i64 ((k : Int) + 1))) rfl rfl (by kernel_rfl) (by kernel_rfl) rfl rfl (ord_value (by kernel_rfl) ?_) ?_
      · (intro sZ wZ hZ; have cZ := (fun kk W hS => TdS.cell hS) sZ wZ hZ; go_simp)
      try simp only [Act.put, puA, puB, puC]
      refine linp_step (i := 5) (d := some 23) (v := (.tuple #[inoV x, .int .i64 0])) rfl rfl (by kernel_rfl) (by kernel_rfl) rfl rfl (ord_call (f := 80) (args := #[.agg #[.pointer (some ⟨b.s, 0, none⟩), .int .i64 n, .int .i64 I], .int .i64 ((k : Int) + 1)]) (by kernel_rfl) ?_ (fun kk W hS => HI.out kk W hS)) ?_
      · (intro _; go_simp)
      try simp only [Act.put, puA, puB, puC]
      refine linp_step (i := 6) (d := some 17) (v := (.tuple #[inoV x, .int .i64 0])) rfl rfl (by kernel_rfl) (by kernel_rfl) rfl rfl (ord_value (by kernel_rfl) ?_) ?_
      · ((intro _ _ _; go_simp) <;> kernel_rfl)
      try simp only [Act.put, puA, puB, puC]
      refine linp_step (i := 7) (d := some 24) (v := (inoV x)) rfl rfl (by kernel_rfl) (by kernel_rfl) rfl rfl (ord_value (by kernel_rfl) ?_) ?_
      · ((intro _ _ _; go_simp) <;> kernel_rfl)
      try simp only [Act.put, puA, puB, puC]
      refine linp_step (i := 8) (d := some 25) (v := (.int .i64 0)) rfl rfl (by kernel_rfl) (by kernel_rfl) rfl rfl (ord_value (by kernel_rfl) ?_) ?_
      · ((intro _ _ _; go_simp) <;> kernel_rfl)
      try simp only [Act.put, puA, puB, puC]
      refine linp_turnD (i := 9) (d := some 4) [10] (fun u kk => ∃ a, u = .pointer (some ⟨a, 0, none⟩) ∧ kk = some (false, a)) rfl rfl (by kernel_rfl) (by kernel_rfl) rfl (by kernel_rfl) ⟨_, _, 0, rfl, rfl⟩ (by kernel_rfl) (fun W hS => ?_) ?_
      · unfold GivesP
        go_simp
        exact ⟨hS.1.alloc W.heap.size rfl (inoL Ii.zero) _, hS.2.alloc _⟩
      rintro _ _ ⟨a, rfl, rfl⟩
      try simp only [Act.put, puA, puB, puC]
      refine linp_turnD (i := 10) (d := none) [] (fun u kk => u = undef ∧ kk = some (true, a)) rfl rfl (by kernel_rfl) (by kernel_rfl) rfl (by kernel_rfl) ⟨_, _, rfl, rfl⟩ (by kernel_rfl) (fun W hS => givesP_of (gives_store_row inoT (hS.1.get 1 _ rfl) rfl rfl (inoL_one x) (.tmp 4) (.tmp 24) rfl rfl rfl ⟨_, ⟨rfl, rfl⟩, hS.1.put 1 _ rfl (inoL x) rfl, ?_⟩)) ?_
      · have hge := (hS.1.row _ (List.mem_cons_of_mem _ (List.mem_cons_self ..))).2.1
        have hge2 : w.heap.size ≤ a := hge
        exact hS.2.only (L := [a]) ((Only.refl [a] W).setCells a (by simp) _ 0 W) (by simp; omega) (fun i hi q => by
          rw [List.mem_singleton] at q
          have := HBL.out i hi
          omega)
      rintro _ _ ⟨rfl, rfl⟩
      try simp only [Act.put, puA, puB, puC]
      refine linp_step (i := 11) (d := some 5) (v := (.int .i64 0)) rfl rfl (by kernel_rfl) (by kernel_rfl) rfl rfl (ord_value (by kernel_rfl) ?_) ?_
      · ((intro _ _ _; go_simp) <;> kernel_rfl)
      try simp only [Act.put, puA, puB, puC]
      refine linp_done (by kernel_rfl) fun W hS => ?_
      clear S HV
      obtain ⟨S1, HV1⟩ := hS
      have S : Hid (Lo (V :: b.all) w [(C, [.int .i64 ((k : Int) + 1)]), (a, inoL x)] W) := Lib.hid S1
      have HV := Lib.hid HV1
      clear S1 HV1 HI
      have ck := (S.out.get 1 _ rfl).cell 0 _ rfl
      have cl := (S.out.get 1 _ rfl).cell 3 _ rfl
      by_cases hx : x.k = 0 ∨ 0 < x.l
      · have HJ2 := Lib.hid (HSK.out hx)
        have cC := (S.out.get 0 _ rfl).cell 0 _ rfl
        have gx : ((x.k == 0) = true) ∨ ((x.k == 0) = false ∧ 0 < x.l) := by
          by_cases q : x.k = 0
          · left; rw [q]; rfl
          · right; exact ⟨by simpa using q, by rcases hx with h | h; exact absurd h q; exact h⟩
        clear hx
        rcases gx with g1 | ⟨g1, g2⟩
        · go_wp2_with fail
          exact tidy_rel S.out HV.out HJ2.out hlt2 HCW.out
        · go_wp2_with fail
          exact tidy_rel S.out HV.out HJ2.out hlt2 HCW.out
      · exact absurd HST.out hx
    · go_wp2_with fail
      go_quiet (fail)
      replace S := Lib.hid (S.out.drewN nq)
      replace HV := Lib.hid (HV.out.below (below_drewN _ nq))
      clear cC cI
      generalize World.drewN _ _ = w1 at S HV ⊢
      have hkk : k = I.toNat := by omega
      have hvs := HJ.out.vs _ _ HJk.out
      have HSY := Lib.hid (vsync_any HV.out hvs.1.snd.up hvs.1.snd.q0 hvs.2)
      go_wp2_with (go_at_call 105; (with_reducible refine HSY.out.mono ?_); rintro e w2 ⟨rfl, hv2, ho2⟩)
      go_ret
      exact ⟨s', hkk ▸ HJk.out, rfl, hv2, S.out.only.trans (ho2.mono (fun i hi => List.mem_cons_of_mem _ (by simp only [syncL, Blk.all, List.mem_cons, List.not_mem_nil, or_false] at hi ⊢; rcases hi with h | h | h | h | h <;> simp [h])))⟩
end

section
open Go.RowKit Go.Maps
open Dk (zeros zeros_length)
open Ii (Ino)
open Jn (Chg Cl)
def SGood (w : World) (d l m : Nat) (K : Sto → Prop) (e : Ending) (w' : World) : Prop :=
  ∃ (b : Blk) (s : Sto), b.d = d ∧ b.l = l ∧ b.m = m ∧ w.heap.size ≤ b.s ∧ w.heap.size ≤ b.j ∧ w.heap.size ≤ b.t ∧ w.heap.size ≤ b.g ∧ e = .returned (.tuple #[.pointer (some ⟨b.s, 0, none⟩), .int .i64 0]) ∧ StoreAt w' b s ∧ K s ∧ Only [d, l, m] w w'
def VGood (w : World) (d l m : Nat) (n I : Int) (K : Sto → Prop) (e : Ending) (w' : World) : Prop :=
  ∃ (V : Nat) (b : Blk) (s : Sto), b.d = d ∧ b.l = l ∧ b.m = m ∧ w.heap.size ≤ V ∧ w.heap.size ≤ b.s ∧ w.heap.size ≤ b.j ∧ w.heap.size ≤ b.t ∧ w.heap.size ≤ b.g ∧ e = .returned (.tuple #[.pointer (some ⟨V, 0, none⟩), .int .i64 0]) ∧ VolAt w' V b s n I 0 ∧ K s ∧ Only [d, l, m] w w'
theorem mount_any {w : World} {d l m : Nat} {s : Dk.St} {n I : Int} (h : DiskAt w d l m s) (hc : Cl s) (hn : (s.last.length : Int) = n) (hp : s.last.getD 0 [] = Pl.superP n I) (hpl : Pl.rightB n I = true) (K K2 : Sto → Prop)
    (hO : ∀ W, DiskAt W d l m s → Calls Tryz.prog 58 #[.pointer (some ⟨d, 0, none⟩), .int .i64 1, .int .i64 40] W (SGood W d l m K))
    (hK : ∀ s1, K s1 → Vs s1 n I ∧ (Fs.inoAt (nv s1) 1).k = 2 ∧ (Fs.inoAt (nv s1) 1).l ≠ 0 ∧ ∃ J, TidyJ n I J ∧ J 0 s1 ∧ ∀ s2, J I.toNat s2 → ssyncE s2 = 0 ∧ K2 (ssync s2)) :
    Calls Tryz.prog 23 #[.pointer (some ⟨d, 0, none⟩)] w (VGood w d l m n I K2) := by
  have HDN := Lib.hid (down_any h)
  rw [hc.up] at HDN
  have HLD : Hid (d < w.heap.size ∧ l < w.heap.size ∧ m < w.heap.size) := Lib.hid ⟨h.dlt, h.llt, h.mlt⟩
  have HP : Hid (Calls Tryz.prog 57 #[.pointer (some ⟨d, 0, none⟩)] w fun e w' => e = .returned (.tuple #[.agg #[.int .i64 n, .int .i64 I], .int .i64 0]) ∧ Below w.heap.size w w') := Lib.hid (planOf_yes h hc hn hp hpl)
  have HJN : Hid (∀ W, Calls Tryz.prog 59 #[.agg #[.int .i64 n, .int .i64 I]] W fun e w' => e = .returned (.int .i64 1) ∧ Below W.heap.size W w') := Lib.hid (fun W => by
    have := plJournal_any n I W
    rw [if_pos hpl] at this
    exact this)
  have HO := Lib.hid hO
  have HK := Lib.hid hK
  have HD := Lib.hid h
  clear h hc hn hp hpl hO hK
  have S0 := Lib.hid (Lo.start (L := [d, l, m]) w (by have := HLD.out; simp; omega))
  go_enter Tryz.func23, Tryz.ntmps23
  go_wp2_with (first
    | (go_at_call 52; (with_reducible refine HDN.out.mono ?_); rintro e w1 ⟨rfl, rfl⟩)
    | (go_at_call 57; (with_reducible refine HP.out.mono ?_); rintro e w1 ⟨rfl, hb⟩; have S1 := Lib.hid (S0.out.below hb); have HD1 := Lib.hid (HD.out.below hb); clear hb S0 HD)
    | ((with_reducible refine wpList_store_newrow (vs := [.int .i64 n, .int .i64 I]) planT2 ?_ (planL_one2 n I) rfl (.tmp 4) (.tmp 15) rfl rfl ?_ ?_ ?_); (exact rfl); (exact rfl); (exact rfl); intro W2 hP hB2 hz2; have S2 := Lib.hid (S1.out.made hP hB2 hz2); have HD2 := Lib.hid (HD1.out.below hB2); clear hP hB2 hz2 S1 HD1)
    | (with_reducible refine wpList_load_mid rfl 68 (.tmp 4) rfl _ 0 rfl [.int .i64 n, .int .i64 I] _ (S2.out.get 0 _ rfl).range Tryz.underlying68 rfl (by kernel_rfl) ?_)
    | (go_at_call 59; (with_reducible refine (HJN.out _).mono ?_); rintro e w3 ⟨rfl, hb⟩; replace S2 := Lib.hid (S2.out.below hb); replace HD2 := Lib.hid (HD2.out.below hb); clear hb))
  have hge2 := S2.out.only.size
  refine (HO.out _ HD2.out).mono ?_
  rintro e w4 ⟨b, s1, b1, b2, b3, g1, g2, g3, g4, rfl, hst, hk, ho⟩
  have S4 := Lib.hid (S2.out.call ho (fun k hk => hk))
  have HST := Lib.hid hst
  obtain ⟨hvs, hr1, hr2, J, hJ, hJ0, hJe⟩ := HK.out s1 hk
  clear S2 HD2 hst hk ho HO HK
  go_wp2_with (first
    | (with_reducible refine wpList_load_mid rfl 68 (.tmp 4) rfl _ 0 rfl [.int .i64 n, .int .i64 I] _ (S4.out.get 0 _ rfl).range Tryz.underlying68 rfl (by kernel_rfl) ?_))
  have HV5 : VolAt (w4.alloc (.cells (volL b.s n I 0).toArray 72)) w4.heap.size b s1 n I 0 := ⟨rowAt_new w4 (volL b.s n I 0) _, HST.out.alloc _, fun q => by have := HST.out.lt _ q; omega⟩
  have S5 := Lib.hid (S4.out.below (below_alloc w4 (.cells (volL b.s n I 0).toArray 72)))
  have hV4 := S4.out.only.size
  change Calls _ _ _ (w4.alloc (.cells (volL b.s n I 0).toArray 72)) _
  generalize w4.heap.size = V at HV5 hV4 ⊢
  generalize World.alloc _ _ = w5 at HV5 S5 ⊢
  refine (rooted_yes HV5 hvs hr1 hr2).mono ?_
  rintro e w6 ⟨rfl, hb⟩
  have HV6 := HV5.below hb
  have S6 := Lib.hid (S5.out.below hb)
  clear HV5 S5 hb S4 HST
  go_wp2_with fail
  refine (tidy_any HV6 J hJ hJ0).mono ?_
  rintro e w7 ⟨s2, hJ2, rfl, HV7, ho⟩
  obtain ⟨hE, hK2⟩ := hJe s2 hJ2
  rw [hE]
  go_wp2_with fail
  go_ret2
  refine ⟨V, b, ssync s2, b1, b2, b3, hV4, by omega, by omega, by omega, by omega, rfl, HV7, hK2, S6.out.only.via ho (fun i hi => ?_)⟩
  simp only [Blk.all, List.mem_cons, List.not_mem_nil, or_false] at hi ⊢
  rcases hi with rfl | rfl | rfl | rfl | rfl | rfl | rfl | rfl
  · right; exact hV4
  · right; omega
  · right; omega
  · left; exact Or.inl b1
  · left; exact Or.inr (Or.inl b2)
  · left; exact Or.inr (Or.inr b3)
  · right; omega
  · right; omega
end

section
open Go.RowKit Go.Maps
open Dk (zeros zeros_length)
open Ii (Ino)
open Hd (pageH)
open Jn (Chg Cl Quiet quietH)
structure FmtS (s : Sto) (n I : Int) : Prop where
  st : s = sto0 s.dk 1 40 37 1
  cl : Cl s.dk
  lim : s.dk.lim = false
  len : (s.dk.last.length : Int) = n
  head : s.dk.last.getD 1 [] = pageH (quietH 1)
  pages : ∀ i, i < s.dk.last.length → i ≠ 1 → s.dk.last.getD i [] = fmtP n I i
theorem FmtS.vs {s : Sto} {n I : Int} (h : FmtS s n I) (hpl : Pl.rightB n I = true) : Vs s n I := by
  obtain ⟨h1, h2, h3, h4⟩ := Pl.right_yes hpl
  have hd := Pl.data_bd h1 h2
  have hlen := h.len
  have hok : s.Ok := by
    rw [h.st]
    exact sto0_ok (by decide) (by decide) room40 (by decide) (by decide) (by decide) (by omega)
  exact ⟨⟨hok, by rw [h.st]; rfl, h.cl, by rw [h.st]; show (0 : Int) ≤ 1; decide, by rw [h.st]; exact h.head⟩, by rw [h.st]; rfl, by rw [h.st]; rfl, by rw [h.st]; rfl, h.len, hpl⟩
theorem FmtS.pg {s : Sto} {n I : Int} (h : FmtS s n I) (i : Nat) (hi : (i : Int) < n) (h1 : i ≠ 1) : nv s i = fmtP n I i := by
  have hlen := h.len
  rw [← h.pages i (by omega) h1]
  unfold Go.Proofs.YtmpfcgjjejlhdaaGreat.nv sheld
  have e1 : s.step = noPgs s.dk.last.length := by rw [h.st]; rfl
  have e2 : s.group = noPgs s.dk.last.length := by rw [h.st]; rfl
  rw [e1, e2, noPgs_at]; rfl
theorem FmtS.q {s : Sto} {n I : Int} (h : FmtS s n I) : s.q = 1 ∧ cntO s.group = 0 := by
  constructor
  · rw [h.st]; rfl
  · have e2 : s.group = noPgs s.dk.last.length := by rw [h.st]; rfl
    rw [e2, cntO_no]
theorem FmtS.sync {s : Sto} {n I : Int} (h : FmtS s n I) : ssyncE s = 0 ∧ ssync s = s := by
  have hup : ¬ s.over = true := by rw [h.st]; simp [sto0]
  constructor
  · unfold ssyncE; rw [if_neg hup, if_pos h.q.2]
  · unfold ssync; rw [if_neg hup, if_pos h.q.2]
theorem root_get : Ii.getI rootP 0 = rootI := by kernel_rfl
theorem root_other : (Ii.getI rootP 32).k = 0 := by decide
theorem zero_get : (Ii.getI zeros 0).k = 0 ∧ (Ii.getI zeros 32).k = 0 := by decide
theorem FmtS.inode {s : Sto} {n I : Int} (h : FmtS s n I) (hpl : Pl.rightB n I = true) (i : Int) (h1 : 1 ≤ i) (h2 : i ≤ I) : Fs.inoAt (nv s) i = if i = 1 then rootI else Ii.zero := by
  obtain ⟨r1, r2, r3, r4⟩ := Pl.right_yes hpl
  have hd := Pl.data_bd r1 r2
  have hdn : Pl.dataN I = 43 + (I + 1) / 2 := rfl
  have ht : Fs.tbl i = 43 + ((i - 1) / 2).toNat := by unfold Fs.tbl; omega
  have hp : nv s (Fs.tbl i) = if (i - 1) / 2 = 0 then rootP else zeros := by
    rw [h.pg (Fs.tbl i) (by rw [ht]; omega) (by rw [ht]; omega)]
    unfold fmtP
    rw [if_neg (by rw [ht]; omega), if_neg (by rw [ht]; omega)]
    by_cases c : (i - 1) / 2 = 0
    · rw [if_pos (by rw [ht]; omega), if_pos c]
    · rw [if_neg (by rw [ht]; omega), if_neg c]
  have hh : Fs.halfAt i = 0 ∨ Fs.halfAt i = 32 := by unfold Fs.halfAt; omega
  unfold Fs.inoAt
  rw [hp]
  by_cases c1 : i = 1
  · subst c1
    have hz0 : ((1 : Int) - 1) / 2 = 0 := by decide
    have e : Fs.halfAt 1 = 0 := by decide
    rw [if_pos hz0, e, root_get, if_neg (show ¬ rootI.k = 0 by decide), if_pos rfl]
  · rw [if_neg c1]
    by_cases c : (i - 1) / 2 = 0
    · rw [if_pos c]
      have e : Fs.halfAt i = 32 := by unfold Fs.halfAt; omega
      rw [e, if_pos root_other]
    · rw [if_neg c]
      rcases hh with e | e <;> rw [e]
      · rw [if_pos zero_get.1]
      · rw [if_pos zero_get.2]
theorem fmt_open {w : World} {d l m : Nat} {s : Dk.St} {n I : Int} (h : DiskAt w d l m s) (hf : Fmt s n I) (hpl : Pl.rightB n I = true) : Calls Tryz.prog 58 #[.pointer (some ⟨d, 0, none⟩), .int .i64 1, .int .i64 40] w (SGood w d l m (fun s1 => FmtS s1 n I)) := by
  obtain ⟨r1, r2, r3, r4⟩ := Pl.right_yes hpl
  have hd := Pl.data_bd r1 r2
  have hlen := hf.len
  have hp1 : s.last.getD 1 [] = zeros := by rw [hf.pages 1 (by omega)]; rfl
  have hq : Quiet 1 40 0 s.last s.last := by
    refine ⟨rfl, ?_, ?_, fun i hi => rfl⟩
    · rw [hp1]; exact ⟨zeros_length, by rw [zeros_front]; exact Int.le_refl _, by rw [zeros_back]; exact Int.le_refl _⟩
    · rw [hp1]; exact zeros_quiet
  have ho := openQ_any (a := 1) (z := 40) (r := 37) h hf.cl hq (Int.le_refl 0) (by omega) (by omega) (by omega) (by omega) room40 (by omega) (by omega)
  have hn : Hd.nextN [s.last.getD 1 []] = 1 := by rw [hp1]; exact zeros_next
  rcases Jn.openQ (a := 1) (z := 40) hf.cl hq (by omega) (by omega) (Int.le_refl 0) (by omega) with ⟨e1, e2, e3, e4, e5⟩ | ⟨_, e, _⟩
  · rw [hn] at ho e1 e2 e4 e5
    have hl2 : (Jn.runs s [[⟨((1 : Nat) : Int), pageH (quietH 1)⟩]]).1.last.length = s.last.length := by rw [e4, List.length_set]
    refine (sopen_any (r := 37) ⟨h.dlt, h.llt, h.mlt⟩ (by rw [hl2]; omega) (by omega) (by omega) room40 (by omega) (by omega) (by decide) ho).mono ?_
    rintro e w' ⟨k1, k2, k3⟩
    rcases k3 with ⟨_, b, cnt, q, b1, b2, b3, b4, b5, b6, b7, k4, ⟨rfl, rfl⟩, k6⟩ | ⟨k4, _⟩
    · refine ⟨b, _, b1, b2, b3, b4, b5, b6, b7, k4, k6, ⟨rfl, e2, ?_, ?_, ?_, ?_⟩, k2⟩
      · exact e5.trans hf.lim
      · show ((Jn.runs s _).1.last.length : Int) = n
        rw [hl2, hlen]
      · show (Jn.runs s _).1.last.getD 1 [] = _
        rw [e4, List.getD_eq_getElem?_getD, List.getElem?_set_self (by omega)]; rfl
      · intro i hi h1
        show (Jn.runs s _).1.last.getD i [] = _
        have hi2 : i < s.last.length := by rw [← hl2]; exact hi
        rw [e4, List.getD_eq_getElem?_getD, List.getElem?_set_ne (fun q => h1 q.symm), ← List.getD_eq_getElem?_getD]
        exact hf.pages i hi2
    · exact absurd e1 k4
  · rw [hf.lim] at e; cases e
theorem fmt_mount {w : World} {d l m : Nat} {s : Dk.St} {n I : Int} (h : DiskAt w d l m s) (hf : Fmt s n I) (hpl : Pl.rightB n I = true) : Calls Tryz.prog 23 #[.pointer (some ⟨d, 0, none⟩)] w (VGood w d l m n I (fun s1 => FmtS s1 n I)) := by
  obtain ⟨r1, r2, r3, r4⟩ := Pl.right_yes hpl
  have hd := Pl.data_bd r1 r2
  have hlen := hf.len
  refine mount_any h hf.cl hf.len (by rw [hf.pages 0 (by omega)]; rfl) hpl (fun s1 => FmtS s1 n I) (fun s1 => FmtS s1 n I) (fun W hW => fmt_open hW hf hpl) (fun s1 h1 => ?_)
  have hi1 := h1.inode hpl 1 (by omega) r1
  rw [if_pos rfl] at hi1
  refine ⟨h1.vs hpl, by rw [hi1]; rfl, by rw [hi1]; decide, fun _ s2 => s2 = s1, ⟨fun k s2 hs => ?_, fun k s2 hs _ _ => hs, fun k s2 hs hk => ?_⟩, rfl, fun s2 hs => ?_⟩
  · subst hs
    exact ⟨h1.vs hpl, by rw [h1.q.1]; decide⟩
  · subst hs
    have hi := h1.inode hpl ((k : Int) + 1) (by omega) hk
    rw [hi]
    by_cases c : (k : Int) + 1 = 1
    · rw [if_pos c]
      exact Or.inr (by decide)
    · rw [if_neg c]
      exact Or.inl rfl
  · subst hs
    obtain ⟨e1, e2⟩ := h1.sync
    rw [e2]
    exact ⟨e1, h1⟩
theorem lawFresh_any (w : World) (N : Nat) (I : Int) (hpl : Pl.rightB (N : Int) I = true) : Calls Tryz.prog 7 #[.int .i64 (N : Int), .int .i64 I] w fun e w' => ∃ (V : Nat) (b : Blk) (s : Sto), e = .returned (.tuple #[.pointer (some ⟨V, 0, none⟩), .pointer (some ⟨b.d, 0, none⟩)]) ∧ VolAt w' V b s (N : Int) I 0 ∧ FmtS s (N : Int) I ∧ Below w.heap.size w w' ∧ w.heap.size ≤ V ∧ ∀ k ∈ b.all, w.heap.size ≤ k := by
  obtain ⟨r1, r2, r3, r4⟩ := Pl.right_yes hpl
  have hd := Pl.data_bd r1 r2
  have HN := Lib.hid (new_any N w (by omega) (by omega))
  have HF := Lib.hid (format_new (newWorld_disk w N (by omega) (by omega)) hpl)
  have HBW := Lib.hid (newWorld_below w N)
  have HSZ := Lib.hid (newWorld_size w N)
  go_enter Tryz.func7, Tryz.ntmps7
  go_wp2_with (go_at_call 21; (with_reducible refine HN.out.mono ?_); rintro e w1 ⟨rfl, rfl⟩)
  refine HF.out.mono ?_
  rintro e w2 ⟨rfl, ho2, s, hf, hd2⟩
  have HM := Lib.hid (fmt_mount hd2 hf hpl)
  go_wp2_with fail
  refine HM.out.mono ?_
  rintro e w3 ⟨V, b, s1, b1, b2, b3, g1, g2, g3, g4, g5, rfl, hv, hs, ho3⟩
  go_wp2_with fail
  go_ret2
  have hz := HSZ.out
  have hz2 := ho2.size
  refine ⟨V, b, s1, by rw [b1]; rfl, hv, hs, Only.toBelowOld HBW.out (ho2.trans ho3) (by omega) (by simp), by omega, fun k hk => ?_⟩
  simp only [Blk.all, List.mem_cons, List.not_mem_nil, or_false] at hk
  rcases hk with rfl | rfl | rfl | rfl | rfl | rfl | rfl <;> omega
end

section
open Go.RowKit Go.Maps
open Dk (zeros zeros_length)
open Hd (Head rightB pageH)
open Jn (Chg quietH liveH Cl Quiet LiveD May Same upd)
theorem upd_atF (cs : List Chg) : ∀ (L : List (List UInt8)) (c : Chg), cs.Pairwise (fun x y => x.no < y.no) → (∀ x ∈ cs, 0 ≤ x.no) → c ∈ cs → c.no.toNat < L.length → (upd L cs).getD c.no.toNat [] = c.page := by
  induction cs with
  | nil => intro L c _ _ hc; cases hc
  | cons x r ih =>
    intro L c hp h0 hc hl
    obtain ⟨p1, p2⟩ := List.pairwise_cons.1 hp
    show (upd (L.set x.no.toNat x.page) r).getD c.no.toNat [] = _
    rcases List.mem_cons.1 hc with rfl | hc
    · rw [Jn.upd_other _ _ _ (fun y hy => by have := p1 y hy; have := h0 c (by simp); have := h0 y (by simp [hy]); omega), List.getD_eq_getElem?_getD, List.getElem?_set_self hl]; rfl
    · exact ih _ c p2 (fun y hy => h0 y (by simp [hy])) hc (by rw [List.length_set]; exact hl)
def gv (s : Sto) (i : Nat) : List UInt8 := (s.group.getD i none).getD (s.dk.last.getD i [])
theorem upd_gv (s : Sto) (h : s.Ok) (i : Nat) : (upd s.dk.last (chgs s.group)).getD i [] = gv s i := by
  unfold gv
  cases e : s.group.getD i none with
  | some p =>
    have hm : (⟨(i : Int), p⟩ : Chg) ∈ chgs s.group := chgs_mem.2 ⟨i, rfl, e⟩
    have := upd_atF (chgs s.group) s.dk.last ⟨(i : Int), p⟩ (chgs_pw _) (fun x hx => by obtain ⟨k, hk, _⟩ := chgs_mem.1 hx; omega) hm (by
      show ((i : Int)).toNat < _
      rw [Int.toNat_natCast, ← h.glen]; exact pgs_lt e)
    exact this
  | none =>
    refine Jn.upd_other _ _ _ (fun c hc q => ?_)
    obtain ⟨k, hk, hk2⟩ := chgs_mem.1 hc
    rw [hk, Int.toNat_natCast] at q
    rw [q, e] at hk2
    cases hk2
theorem join_gv {s : Sto} (h : s.Ok) {i : Nat} : gv (sjoin s) i = nv s i := by
  unfold gv nv
  show ((joinP s.group s.step).getD i none).getD (s.dk.last.getD i []) = _
  by_cases hi : i < s.group.length
  · rw [joinP_at _ _ _ hi]; rfl
  · have e1 : (joinP s.group s.step).getD i none = none := by
      rw [List.getD_eq_getElem?_getD, List.getElem?_eq_none (by rw [joinP_length]; omega)]; rfl
    have e2 : sheld s i = none := by
      unfold sheld
      rw [List.getD_eq_getElem?_getD, List.getElem?_eq_none (by rw [h.slen, ← h.glen]; omega), List.getD_eq_getElem?_getD, List.getElem?_eq_none (l := s.group) (by omega)]; rfl
    rw [e1, e2]
def Idle (s : Sto) : Prop := s.step = noPgs s.dk.last.length
theorem idle_nv {s : Sto} (h : Idle s) (i : Nat) : nv s i = gv s i := by
  unfold nv gv sheld
  rw [h, noPgs_at]; rfl
theorem idle_drop {s : Sto} (h : Idle s) : sdrop s = s := by
  unfold sdrop
  rw [← h]
def Out (n : Int) (i : Nat) : Prop := (i : Int) < n ∧ (i = 0 ∨ 41 ≤ i)
structure Calm (s : Sto) (n I : Int) (k : Nat) : Prop where
  vs : Vs s n I
  idle : Idle s
  q : s.q ≤ 1 + 2 * (k : Int)
  lim : s.dk.lim = false
theorem Goes.keeps {s s' : Sto} {L : List Nat} (g : Goes s s' L) : s'.dk = s.dk ∧ s'.group = s.group ∧ s'.q = s.q ∧ s'.over = s.over ∧ s'.r = s.r := by
  rw [g.same]
  exact ⟨rfl, rfl, rfl, rfl, rfl⟩
theorem FmtS.calm {s : Sto} {n I : Int} (h : FmtS s n I) (hpl : Pl.rightB n I = true) : Calm s n I 0 :=
  ⟨h.vs hpl, by unfold Idle; rw [h.st]; rfl, by rw [h.q.1]; decide, h.lim⟩
theorem count_or {α : Type} (p q : α → Bool) : ∀ l : List α, l.countP (fun i => p i || q i) ≤ l.countP p + l.countP q
  | [] => by simp
  | x :: r => by
    have := count_or p q r
    rw [List.countP_cons, List.countP_cons, List.countP_cons]
    cases p x <;> cases q x <;> simp <;> omega
theorem count_one (x : Nat) : ∀ N, (List.range N).countP (fun i => i == x) ≤ (if x < N then 1 else 0)
  | 0 => by simp
  | N + 1 => by
    have := count_one x N
    rw [List.range_succ, List.countP_append, List.countP_singleton]
    by_cases c : N = x
    · subst c
      rw [if_neg (by omega)] at this
      simp; omega
    · have e : (N == x) = false := by simpa using c
      rw [e]
      simp only [Bool.false_eq_true, if_false]
      by_cases d : x < N
      · rw [if_pos d] at this; rw [if_pos (show x < N + 1 by omega)]; omega
      · rw [if_neg d] at this; rw [if_neg (show ¬ x < N + 1 by omega)]; omega
theorem count_ins (N : Nat) : ∀ L : List Nat, (List.range N).countP (fun i => L.contains i) ≤ L.length
  | [] => by simp
  | x :: L => by
    have h1 := count_ins N L
    have h2 := count_or (fun i => i == x) (fun i => L.contains i) (List.range N)
    have h3 := count_one x N
    have e : (fun i => (x :: L).contains i) = fun i => (i == x) || L.contains i := by
      funext i
      rw [List.contains_cons]
    rw [e, List.length_cons]
    split at h3 <;> omega
theorem cntU_le (N : Nat) (L : List Nat) : Fs.cntU (noPgs N) L ≤ L.length := by
  unfold Fs.cntU
  have e : (noPgs N).length = N := by unfold noPgs; simp
  rw [e]
  have h1 : (List.range N).countP (fun i => ((noPgs N).getD i none).isSome || L.contains i) = (List.range N).countP (fun i => L.contains i) := by
    congr 1
    funext i
    rw [noPgs_at]; rfl
  rw [h1]
  exact count_ins N L
end

namespace Fs
open Dk (zeros zeros_length)
open Ii (Ino)
section
variable {α β : Type} {n : Int}
end
section
variable {n I : Int} (hpl : Pl.rightB n I = true)
include hpl
end
end Fs

section
open Go.RowKit Go.Maps
open Dk (zeros zeros_length)
open Ii (Ino)
end

section
open Go.RowKit Go.Maps
open Dk (zeros zeros_length)
open Ii (Ino)
end
end Go.Proofs.YtmpfcgjjejlhdaaGreat
