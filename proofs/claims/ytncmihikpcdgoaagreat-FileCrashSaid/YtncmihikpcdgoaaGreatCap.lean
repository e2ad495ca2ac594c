/- Texts of the proof. -/
import Derived.Test.YtncmihikpcdgoaaGreatCao
import Derived.Test.YtncmihikpcdgoaaGreatCai
import Derived.Test.YtncmihikpcdgoaaGreatCag
import Derived.Test.YtncmihikpcdgoaaGreatCac
import Derived.ProofKit
import Derived.OpenShut
import Derived.ShutString
import Derived.ChangeOld
import Derived.Lib.SmallJoins
import Derived.Deep.RegionHeld3
set_option maxRecDepth 100000
set_option maxHeartbeats 16000000
namespace Go.Proofs.YtncmihikpcdgoaaGreat
section
open Go.RowKit Go.Maps
open Dk (zeros zeros_length)
open Ii (Ino)
theorem binode_any {w : World} {b : Blk} {s : Sto} {n I : Int} (hst : StoreAt w b s) (v : Vs s n I) (i : Int) : Calls Tryz.prog 69 #[baseV b.s n I, .int .i64 i] w fun e w' => e = .returned (exV inoV (inoV Ii.zero) (Fs.inodeF I i (nv s))) ∧ Below w.heap.size w w' := by
  unfold Fs.inodeF
  by_cases c : 1 ≤ i ∧ i ≤ I
  · rw [if_pos c]; exact binode_yes hst v i c.1 c.2
  · rw [if_neg c]; exact binode_no v i (by omega)
theorem vol_ino (w : World) : Lo [] w [(w.heap.size, inoL Ii.zero)] (w.alloc (.cells (inoL Ii.zero).toArray 31)) := (Lo.start w (by simp)).alloc _ rfl (inoL Ii.zero) _
theorem VolAt.lo {w w' : World} {V : Nat} {b : Blk} {s : Sto} {n I k : Int} {l : List (Nat × List Value)} (h : VolAt w V b s n I k) (hl : Lo [] w l w') : VolAt w' V b s n I k := h.below hl.bel
theorem inode_two (I i : Int) (V : Fs.View) : ∃ x er, exV inoV (inoV Ii.zero) (Fs.inodeF I i V) = .tuple #[inoV x, .int .i64 er] := by
  unfold Fs.inodeF
  split
  · exact ⟨_, _, rfl⟩
  · exact ⟨_, _, rfl⟩
theorem vinode_any {w : World} {V : Nat} {b : Blk} {s : Sto} {n I k : Int} (h : VolAt w V b s n I k) (v : Vs s n I) (i : Int) : Calls Tryz.prog 26 #[.pointer (some ⟨V, 0, none⟩), .int .i64 i] w fun e w' => e = .returned (exV inoV (inoV Ii.zero) (Fs.inodeF I i (nv s))) ∧ Below w.heap.size w w' := by
  have S := Lib.hid (vol_ino w)
  have HV : Hid (∀ W l, Lo [] w l W → Calls Tryz.prog 30 #[.pointer (some ⟨V, 0, none⟩)] W fun e w' => e = .returned (.bool false) ∧ W = w') := Lib.hid (fun W l hl => by
    have := vover_any (h.lo hl)
    rw [v.snd.up] at this
    exact this)
  have HI : Hid (∀ W l, Lo [] w l W → Calls Tryz.prog 69 #[baseV b.s n I, .int .i64 i] W fun e w' => e = .returned (exV inoV (inoV Ii.zero) (Fs.inodeF I i (nv s))) ∧ Below W.heap.size W w') := Lib.hid (fun W l hl => binode_any (h.lo hl).store v i)
  have HR : Hid (∀ W l, Lo [] w l W → RowAt W V (volL b.s n I k)) := Lib.hid (fun W l hl => (h.lo hl).row)
  obtain ⟨x, er, hxe⟩ := inode_two I i (nv s)
  rw [hxe] at HI ⊢
  clear h v hxe
  unfold baseV at HI
  go_enter Tryz.func26, Tryz.ntmps26
  go_wp2_with (first
    | (go_at_call 30; refine (HV.out _ _ S.out).mono ?_; rintro e w1 ⟨rfl, rfl⟩)
    | (with_reducible refine wpList_load_mid rfl 77 (.tmp 11) rfl V 0 rfl [.pointer (some ⟨b.s, 0, none⟩), .int .i64 n, .int .i64 I] _ (HR.out _ _ S.out).base Tryz.underlying77 rfl (by kernel_rfl) ?_)
    | (go_at_call 69; refine (HI.out _ _ S.out).mono ?_; rintro e w1 ⟨rfl, hb⟩; replace S := Lib.hid (S.out.below hb); clear hb)
    | ((with_reducible refine wpList_store_rw (vs := inoL x) inoT (S.out.get 0 _ rfl) ?_ ?_ (inoL_one _) rfl (.tmp 4) (.tmp 15) rfl ?_ ?_ ?_); (exact rfl); (exact rfl); (exact rfl); (exact rfl)))
  have S2 := Lib.hid (S.out.put 0 _ rfl (inoL x) rfl)
  exact bodyPost_ret (results_row2 inoT _ 4 5 rfl _ (S2.out.get 0 _ rfl) rfl rfl rfl) rfl ⟨rfl, S2.out.bel⟩
theorem read_two (n I i off cnt : Int) (V : Fs.View) : ∃ (x : ByteArray) (er : Int), exV (fun l => Value.string (strOf l)) (.string ⟨#[]⟩) (Fs.readF n I i off cnt V) = .tuple #[.string x, .int .i64 er] := by
  cases Fs.readF n I i off cnt V with
  | error e => exact ⟨_, _, rfl⟩
  | ok t => exact ⟨_, _, rfl⟩
theorem vread_any {w : World} {V : Nat} {b : Blk} {s : Sto} {n I k : Int} (h : VolAt w V b s n I k) (v : Vs s n I) (i off cnt : Int) (h1 : off ≤ 9223372036854775807) : Calls Tryz.prog 27 #[.pointer (some ⟨V, 0, none⟩), .int .i64 i, .int .i64 off, .int .i64 cnt] w fun e w' => e = .returned (exV (fun l => .string (strOf l)) (.string ⟨#[]⟩) (Fs.readF n I i off cnt (nv s))) ∧ Below w.heap.size w w' := by
  have HV := Lib.hid (vover_any h)
  rw [v.snd.up] at HV
  have HI := Lib.hid (bread_any h.store v i off cnt h1)
  have HR := Lib.hid h.row
  obtain ⟨x, er, hxe⟩ := read_two n I i off cnt (nv s)
  rw [hxe] at HI ⊢
  clear h v hxe
  unfold baseV at HI
  go_enter Tryz.func27, Tryz.ntmps27
  go_wp2_with (first
    | (go_at_call 30; refine HV.out.mono ?_; rintro e w1 ⟨rfl, rfl⟩)
    | (with_reducible refine wpList_load_mid rfl 77 (.tmp 14) rfl V 0 rfl [.pointer (some ⟨b.s, 0, none⟩), .int .i64 n, .int .i64 I] _ HR.out.base Tryz.underlying77 rfl (by kernel_rfl) ?_)
    | (go_at_call 70; refine HI.out.mono ?_; rintro e w1 ⟨rfl, hb⟩))
  go_ret2
  exact ⟨rfl, hb⟩
theorem vol_page (w : World) : Lo [] w [(w.heap.size, byteVals zeros)] (w.alloc (.cells zeroCells 68)) := (Lo.start w (by simp)).alloc _ rfl (byteVals zeros) _
theorem vpage_any {w : World} {V : Nat} {b : Blk} {s : Sto} {n I k : Int} (h : VolAt w V b s n I k) (v : Vs s n I) (i : Int) : Calls Tryz.prog 33 #[.pointer (some ⟨V, 0, none⟩), .int .i64 i] w fun e w' => e = .returned (.tuple #[pageV (sreadP s i), .int .i64 (sreadE s i)]) ∧ Below w.heap.size w w' := by
  have S0 := Lib.hid (vol_page w)
  have HV : Hid (∀ W l, Lo [] w l W → Calls Tryz.prog 30 #[.pointer (some ⟨V, 0, none⟩)] W fun e w' => e = .returned (.bool false) ∧ W = w') := Lib.hid (fun W l hl => by
    have := vover_any (h.lo hl)
    rw [v.snd.up] at this
    exact this)
  have HI : Hid (∀ W l, Lo [] w l W → Calls Tryz.prog 76 #[.pointer (some ⟨b.s, 0, none⟩), .int .i64 i] W fun e w' => e = .returned (.tuple #[pageV (sreadP s i), .int .i64 (sreadE s i)]) ∧ Below W.heap.size W w') := Lib.hid (fun W l hl => sread_any (h.lo hl).store i)
  have HR : Hid (∀ W l, Lo [] w l W → W.cell? ⟨V, 0, none⟩ = some (.pointer (some ⟨b.s, 0, none⟩))) := Lib.hid (fun W l hl => (h.lo hl).c0)
  have HL : Hid ((sreadP s i).length = 64) := Lib.hid (sread_len v.snd.ok v.snd.cl.ok i)
  generalize sreadP s i = p at HI HL ⊢
  generalize sreadE s i = er at HI ⊢
  clear h v
  go_enter Tryz.func33, Tryz.ntmps33
  go_wp2_with fail
  rw [← zeroCells_def]
  generalize hw : World.alloc _ _ = w1
  have S : Hid (Lo [] w [(w.heap.size, byteVals zeros)] w1) := Lib.hid (by rw [← hw]; exact S0.out)
  clear hw S0
  have c0 := HR.out _ _ S.out
  go_wp2_with (first
    | (go_at_call 30; refine (HV.out _ _ S.out).mono ?_; rintro e w1 ⟨rfl, rfl⟩)
    | (go_at_call 76; refine (HI.out _ _ S.out).mono ?_; rintro e w2 ⟨rfl, hb⟩; replace S := Lib.hid (S.out.below hb); clear hb)
    | ((with_reducible refine wpList_store_page (S.out.page 0 rfl zeros_length) HL.out rfl (.tmp 4) (.tmp 16) rfl rfl ?_ ?_); (exact rfl)))
  have S2 := Lib.hid (S.out.putP 0 rfl zeros_length p HL.out)
  exact bodyPost_ret (results_page_int _ 4 5 rfl _ (S2.out.page 0 rfl HL.out) rfl) rfl ⟨rfl, S2.out.bel⟩
def syncL (b : Blk) : List Nat := [b.j, b.d, b.l, b.m, b.g]
theorem vsync_any {w : World} {V : Nat} {b : Blk} {s : Sto} {n I k : Int} (h : VolAt w V b s n I k) (hup : s.over = false) (hq0 : 0 ≤ s.q) (hq1 : s.q < 4294967290) : Calls Tryz.prog 22 #[.pointer (some ⟨V, 0, none⟩)] w fun e w' => e = .returned (.int .i64 (ssyncE s)) ∧ VolAt w' V b (ssync s) n I k ∧ Only (syncL b) w w' := by
  have HV := Lib.hid (vover_any h)
  rw [hup] at HV
  have HI := Lib.hid (ssync_any h.store hq0 hq1)
  have c0 := h.c0
  have hsub : ∀ i ∈ syncL b, i ∈ b.all := fun i hi => by simp only [syncL, Blk.all, List.mem_cons, List.not_mem_nil, or_false] at hi ⊢; rcases hi with h | h | h | h | h <;> simp [h]
  go_enter Tryz.func22, Tryz.ntmps22
  go_wp2_with (first
    | (go_at_call 30; refine HV.out.mono ?_; rintro e w1 ⟨rfl, rfl⟩)
    | (go_at_call 58; refine HI.out.mono ?_; rintro e w1 ⟨rfl, hst, hO⟩))
  go_ret
  exact ⟨rfl, ⟨h.row.only hO (fun q => h.nb (hsub _ q)), hst, h.nb⟩, hO⟩
theorem vsync_over {w : World} {V : Nat} {b : Blk} {s : Sto} {n I k : Int} (h : VolAt w V b s n I k) (hup : s.over = true) : Calls Tryz.prog 22 #[.pointer (some ⟨V, 0, none⟩)] w fun e w' => e = .returned (.int .i64 5) ∧ w = w' := by
  have HV := Lib.hid (vover_any h)
  rw [hup] at HV
  go_enter Tryz.func22, Tryz.ntmps22
  go_wp2_with (go_at_call 30; refine HV.out.mono ?_; rintro e w1 ⟨rfl, rfl⟩)
  go_ret
  exact ⟨rfl, rfl⟩
end

section
open Go.RowKit Go.Maps
open Dk (zeros zeros_length)
open Ii (Ino)
namespace Fs
def freeV (n I : Int) (V : View) : Int := (n - Pl.dataN I) - ((Bt.all (V 42) true 0 (n - Pl.dataN I)).length : Int)
def spareG (V : View) : Nat → Int → Int
  | 0, _ => 0
  | c + 1, i => (if (inoAt V i).k = 0 then 1 else 0) + spareG V c (i + 1)
def spareV (I : Int) (V : View) : Int := spareG V I.toNat 1
end Fs
theorem plan_row (w : World) : Lo [] w [(w.heap.size, [.int .i64 0, .int .i64 0])] (w.alloc (.cells #[.int .i64 0, .int .i64 0] 63)) := (Lo.start w (by simp)).alloc _ rfl [.int .i64 0, .int .i64 0] _
theorem VolAt.plan {w : World} {V : Nat} {b : Blk} {s : Sto} {n I k : Int} (h : VolAt w V b s n I k) : w.rangeAt V 1 (planL n I) := h.row.plan
theorem planT2 : RowT 63 2 := ⟨⟨_, Tryz.underlying63, rfl⟩, by kernel_rfl⟩
theorem planL_one2 (n I : Int) : ∀ v ∈ ([.int .i64 n, .int .i64 I] : List Value), v.oneCell' = true := by
  intro v hv
  simp only [List.mem_cons, List.not_mem_nil, or_false] at hv
  rcases hv with rfl | rfl <;> rfl
theorem vplan_any {w : World} {V : Nat} {b : Blk} {s : Sto} {n I k : Int} (h : VolAt w V b s n I k) : Calls Tryz.prog 31 #[.pointer (some ⟨V, 0, none⟩)] w fun e w' => e = .returned (planV n I) ∧ Below w.heap.size w w' := by
  have S0 := Lib.hid (plan_row w)
  have HR : Hid (∀ W l, Lo [] w l W → W.rangeAt V 1 [.int .i64 n, .int .i64 I]) := Lib.hid (fun W l hl => (h.lo hl).plan)
  clear h
  go_enter Tryz.func31, Tryz.ntmps31
  go_wp2_with (first
    | (with_reducible refine wpList_load_mid rfl 63 (.tmp 9) rfl V 1 rfl [.int .i64 n, .int .i64 I] _ (HR.out _ _ S0.out) Tryz.underlying63 rfl (by kernel_rfl) ?_)
    | ((with_reducible refine wpList_store_newrow (vs := [.int .i64 n, .int .i64 I]) planT2 ?_ (planL_one2 n I) rfl (.tmp 2) (.tmp 10) rfl rfl ?_ ?_ ?_); (exact rfl); (exact rfl); (exact rfl); intro W4 hP hB2 hz2))
  exact bodyPost_ret (results_row1 planT2 _ 2 rfl _ hP rfl rfl) rfl ⟨rfl, hB2⟩
theorem vfree_any {w : World} {V : Nat} {b : Blk} {s : Sto} {n I k : Int} (h : VolAt w V b s n I k) (v : Vs s n I) : Calls Tryz.prog 25 #[.pointer (some ⟨V, 0, none⟩)] w fun e w' => e = .returned (.int .i64 (Fs.freeV n I (nv s))) ∧ Below w.heap.size w w' := by
  obtain ⟨r1, r2, r3⟩ := v.read (bits_ok v).1
  have HP := Lib.hid (vplan_any h)
  have HDB : Hid (∀ w, Calls Tryz.prog 66 #[planV n I] w fun e w' => e = .returned (.int .i64 42) ∧ Below w.heap.size w w') := Lib.hid (fun w => by
    have := plDataBits_any n I w
    rw [if_pos v.pl] at this
    exact this)
  have HRM := Lib.hid (fun w => plRoom_yes n I w v.pl)
  have HL : Hid ((nv s 42).length = 64) := Lib.hid r3
  have hbl : (byteVals (nv s 42)).length = 64 := by rw [byteVals_length]; exact r3
  have HG : Hid (∀ W l, Lo [] w l W → Calls Tryz.prog 33 #[.pointer (some ⟨V, 0, none⟩), .int .i64 42] W fun e w' => e = .returned (.tuple #[pageV (nv s 42), .int .i64 0]) ∧ Below W.heap.size W w') := Lib.hid (fun W l hl => by
    have := vpage_any (h.lo hl) v 42
    rw [r1, r2] at this
    exact this)
  have HR : Hid (∀ W l, Lo [] w l W → W.rangeAt V 1 (planL n I)) := Lib.hid (fun W l hl => (h.lo hl).plan)
  have S0 := Lib.hid (Lo.start (L := []) w (by simp))
  have HC := Lib.hid (fun W c g (hr : Row W (some ⟨g, 0, none⟩) 1 (nv s 42)) => count_any 0 (n - Pl.dataN I) (some ⟨g, 0, none⟩) 1 c (nv s 42) W hr (by decide))
  have hbd := v.bd
  have hfb : ((Bt.all (nv s 42) true 0 (n - Pl.dataN I)).length : Int) ≤ 512 := by
    have := Bt.all_length (nv s 42) true 0 (n - Pl.dataN I)
    have h3 : (nv s 42).length = 64 := r3
    omega
  unfold Fs.freeV
  clear h v r1 r2 r3
  generalize nv s 42 = p at HL hbl HG HC hfb ⊢
  generalize hcn : ((Bt.all p true 0 (n - Pl.dataN I)).length : Int) = cn at HC hfb ⊢
  have hcn0 : 0 ≤ cn := by omega
  clear hcn
  go_enter Tryz.func25, Tryz.ntmps25
  go_wp2_with (first
    | (go_at_call 31; (with_reducible refine HP.out.mono ?_); rintro e w1 ⟨rfl, hb⟩; replace S0 := Lib.hid (S0.out.below hb); clear hb)
    | (go_at_call 66; (with_reducible refine (HDB.out _).mono ?_); rintro e w1 ⟨rfl, hb⟩; replace S0 := Lib.hid (S0.out.below hb); clear hb)
    | (go_at_call 33; refine (HG.out _ _ S0.out).mono ?_; rintro e w1 ⟨rfl, hb⟩; replace S0 := Lib.hid (S0.out.below hb); clear hb)
    | ((with_reducible refine wpList_store_new rfl (.tmp 3) (.tmp 12) rfl rfl ?_ ?_ HL.out ?_); (exact rfl); (exact rfl); intro W2 hP hB2 hz2; have S1 := Lib.hid (S0.out.made hP.rowAt hB2 hz2); clear hP hB2 hz2 S0; have S0 := Lib.hid S1.out; clear S1)
    | (with_reducible refine wpList_load_mid rfl 68 (.tmp 3) rfl _ 0 rfl (byteVals p) _ (S0.out.get 0 _ rfl).range Tryz.underlying68 rfl (by rw [page_info, byteVals_length, HL.out]) ?_)
    | (with_reducible refine wpList_load_plan (HR.out _ _ S0.out) rfl (.tmp 19) rfl rfl ?_)
    | (go_at_call 67; (with_reducible refine (HRM.out _).mono ?_); rintro e w1 ⟨rfl, hb⟩; replace S0 := Lib.hid (S0.out.below hb); clear hb))
  rw [fold_page rfl HL.out]
  generalize hw : World.alloc _ _ = w2
  have S9 := Lib.hid (S0.out.alloc w1.heap.size rfl (byteVals p) 68)
  have S : Hid (Lo [] w (([] ++ [_]) ++ [(w1.heap.size, byteVals p)]) w2) := Lib.hid (by rw [← hw]; exact S9.out)
  clear hw S9 S0
  replace HC := Lib.hid (HC.out w2 1 w1.heap.size (row_of_page (S.out.page 1 rfl HL.out) (S.out.lt 1 _ rfl)))
  have hnw : -9223372036854775808 ≤ n - Pl.dataN I - cn ∧ n - Pl.dataN I - cn ≤ 9223372036854775807 := by omega
  go_wp2_with (go_at_call 68; (with_reducible refine HC.out.mono ?_); rintro e w3 ⟨rfl, hb⟩; replace S := Lib.hid (S.out.below hb); clear hb HC)
  go_ret
  exact ⟨rfl, S.out.bel⟩
theorem vspare_any {w : World} {V : Nat} {b : Blk} {s : Sto} {n I k : Int} (h : VolAt w V b s n I k) (v : Vs s n I) : Calls Tryz.prog 29 #[.pointer (some ⟨V, 0, none⟩)] w fun e w' => e = .returned (.int .i64 (Fs.spareV I (nv s))) ∧ Below w.heap.size w w' := by
  have hI := v.bd
  have hI1 := hI.1
  have hI2 := hI.2.1
  have HP : Hid (∀ W l, Lo [] w l W → Calls Tryz.prog 31 #[.pointer (some ⟨V, 0, none⟩)] W fun e w' => e = .returned (.agg #[.int .i64 n, .int .i64 I]) ∧ Below W.heap.size W w') := Lib.hid (fun W l hl => vplan_any (h.lo hl))
  have HI : Hid (∀ W l i, Lo [] w l W → 1 ≤ i → i ≤ I → Calls Tryz.prog 26 #[.pointer (some ⟨V, 0, none⟩), .int .i64 i] W fun e w' => e = .returned (.tuple #[inoV (Fs.inoAt (nv s) i), .int .i64 0]) ∧ Below W.heap.size W w') := Lib.hid (fun W l i hl h1 h2 => by
    have := vinode_any (h.lo hl) v i
    unfold Fs.inodeF at this
    rw [if_pos ⟨h1, h2⟩] at this
    exact this)
  unfold Fs.spareV
  clear h v hI
  generalize hX : Fs.spareG (nv s) I.toNat 1 = X
  have HX0 : Hid ((0 : Int) + Fs.spareG (nv s) I.toNat 1 = X) := Lib.hid (by omega)
  clear hX
  have hfd : ∀ W : World, (Instr.field 63 (.agg #[.int .i64 n, .int .i64 I]) 1).run Tryz.prog W = .ok (.int .i64 I) W := fun _ => by kernel_rfl
  have S0 := Lib.hid (Lo.start (L := []) w (by simp))
  go_enter Tryz.func29, Tryz.ntmps29
  go_wp2_with fail
  go_loopw [3, 4] (fun t i wr => ∃ (k : Nat) (c : Int), (k : Int) ≤ I ∧ i = .int .i64 ((k : Int) + 1) ∧ t = .int .i64 c ∧ 0 ≤ c ∧ c ≤ k ∧ Lo [] w [] wr ∧ Hid (c + Fs.spareG (nv s) (I.toNat - k) ((k : Int) + 1) = X)) (fun _ i _ => 200 - (intOf i).toNat)
  case atStart => exact ⟨0, 0, by omega, rfl, rfl, by omega, by omega, S0.out, Lib.hid HX0.out⟩
  case round =>
    obtain ⟨k, c, hk, rfl, rfl, hc0, hck, hS, HG⟩ := hrel
    have S := Lib.hid hS
    clear hS S0 HX0
    by_cases hlt : (k : Int) + 1 ≤ I
    · have e1 : I.toNat - k = (I.toNat - (k + 1)) + 1 := by omega
      rw [e1, Fs.spareG] at HG
      have HII := Lib.hid (fun (W : World) (l : List (Nat × List Value)) (hl : Lo [] w l W) => HI.out W l ((k : Int) + 1) hl (by omega) hlt)
      generalize Fs.inoAt (nv s) ((k : Int) + 1) = x at HG HII
      by_cases hx : x.k = 0
      · rw [if_pos hx] at HG
        have gk : (x.k == 0) = true := by rw [hx]; rfl
        clear hx
        go_wp2_with (first
          | (go_at_call 31; refine (HP.out _ _ S.out).mono ?_; rintro e w1 ⟨rfl, hb⟩; replace S := Lib.hid (S.out.below hb); clear hb)
          | (go_at_call 26; refine (HII.out _ _ S.out).mono ?_; rintro e w1 ⟨rfl, hb⟩; replace S := Lib.hid (S.out.below hb); clear hb)
          | ((with_reducible refine wpList_store_newrow (vs := inoL x) inoT ?_ (inoL_one _) rfl (.tmp 5) (.tmp 18) rfl rfl ?_ ?_ ?_); (exact rfl); (exact rfl); (exact rfl); intro W4 hP hB2 hz2; replace S := Lib.hid (S.out.made hP hB2 hz2); clear hP hB2 hz2; have ck := (S.out.get 0 _ rfl).cell 0 _ rfl))
        go_roundw
        case rel => exact ⟨k + 1, c + 1, by omega, by go_num, by go_num, by omega, by omega, S.out.cut 0, Lib.hid (by rw [show ((k + 1 : Nat) : Int) + 1 = (k : Int) + 1 + 1 by omega]; have := HG.out; omega)⟩
        case measure => simp [intOf]; omega
      · rw [if_neg hx] at HG
        have gk : (x.k == 0) = false := by simpa using hx
        clear hx
        go_wp2_with (first
          | (go_at_call 31; refine (HP.out _ _ S.out).mono ?_; rintro e w1 ⟨rfl, hb⟩; replace S := Lib.hid (S.out.below hb); clear hb)
          | (go_at_call 26; refine (HII.out _ _ S.out).mono ?_; rintro e w1 ⟨rfl, hb⟩; replace S := Lib.hid (S.out.below hb); clear hb)
          | ((with_reducible refine wpList_store_newrow (vs := inoL x) inoT ?_ (inoL_one _) rfl (.tmp 5) (.tmp 18) rfl rfl ?_ ?_ ?_); (exact rfl); (exact rfl); (exact rfl); intro W4 hP hB2 hz2; replace S := Lib.hid (S.out.made hP hB2 hz2); clear hP hB2 hz2; have ck := (S.out.get 0 _ rfl).cell 0 _ rfl))
        go_roundw
        case rel => exact ⟨k + 1, c, by omega, by go_num, rfl, by omega, by omega, S.out.cut 0, Lib.hid (by rw [show ((k + 1 : Nat) : Int) + 1 = (k : Int) + 1 + 1 by omega]; have := HG.out; omega)⟩
        case measure => simp [intOf]; omega
    · have e1 : I.toNat - k = 0 := by omega
      rw [e1, Fs.spareG] at HG
      have HE : c = X := by have := HG.out; omega
      go_wp2_with (go_at_call 31; refine (HP.out _ _ S.out).mono ?_; rintro e w1 ⟨rfl, hb⟩; replace S := Lib.hid (S.out.below hb); clear hb)
      go_ret
      exact ⟨rfl, S.out.bel⟩
end

section
open Go.RowKit Go.Maps
open Dk (zeros zeros_length)
open Ii (Ino)
structure Fop where
  k : Int
  ino : Int
  off : Int
  n : Int
  text : List UInt8
  x : Ino
def opL (o : Fop) : List Value := .int .i64 o.k :: .int .i64 o.ino :: .int .i64 o.off :: .int .i64 o.n :: .string (strOf o.text) :: inoL o.x
def opV (o : Fop) : Value := .agg (opL o).toArray
theorem opL_one (o : Fop) : ∀ v ∈ opL o, v.oneCell' = true := by
  intro v hv
  simp only [opL, List.mem_cons] at hv
  rcases hv with rfl | rfl | rfl | rfl | rfl | hv
  · rfl
  · rfl
  · rfl
  · rfl
  · rfl
  · exact inoL_one o.x v hv
theorem opT : RowT 33 16 := ⟨⟨_, Tryz.underlying33, rfl⟩, by kernel_rfl⟩
namespace Fs
def opM (n I : Int) (o : Fop) : M Int :=
  if o.k = 0 then newM n I o.x
  else if o.k = 1 then andThen (changeM n I o.ino o.x) fun _ => ret 0
  else if o.k = 2 then andThen (releaseM n I o.ino) fun _ => ret 0
  else if o.k = 3 then andThen (writeM n I o.ino o.off o.text) fun _ => ret 0
  else if o.k = 4 then andThen (truncM n I o.ino o.off) fun _ => ret 0
  else ret 0
end Fs
theorem Ends.cb {B : Nat} {b : Blk} {n I : Int} {w : World} {s : Sto} {m : Fs.M Unit} {e : Ending} {w' : World} {X : Nat} (h : Ends B b n I [] w s m (fun _ e _ => e = .returned (.tuple #[])) e w') (hX : RowAt w X [.int .i64 0]) (hXB : X ≠ B) (hXt : X ≠ b.t) :
    Cb B b n I [X] w s (Fs.andThen m fun _ => Fs.ret 0) (fun a w' => RowAt w' X [.int .i64 a]) (fun w' => RowAt w' X [.int .i64 0]) e w' := by
  rcases h with ⟨a, s', L, E, G, C, hK, O⟩ | ⟨er, F, h0, Br, he, O⟩
  · refine Or.inl ⟨0, s', L, by rw [Fs.andThen_ok E]; simp [Fs.ret], G, C, hK, hX.only O (by simpa using hXt), O.mono (fun k hk => by rw [List.mem_singleton] at hk; subst hk; exact List.mem_cons_self ..)⟩
  · refine Or.inr ⟨er, F.bind, h0, Br, he, hX.only O (by simp; exact ⟨hXB, hXt⟩), O.mono (fun k hk => by simp only [List.mem_cons, List.not_mem_nil, or_false] at hk ⊢; rcases hk with rfl | rfl <;> simp)⟩
theorem opD_any {w : World} {B : Nat} {b : Blk} {s : Sto} {n I : Int} (h : Ctx w B b s n I) (o : Fop) (ht : o.text.length ≤ 10000) (O1 X : Nat) (hO : RowAt w O1 (opL o)) (hX : RowAt w X [.int .i64 0]) (hXB : X ≠ B) (hXt : X ∉ b.all) (hOX : O1 ≠ X) :
    Calls Tryz.prog 36 #[.pointer (some ⟨B, 0, none⟩), .pointer (some ⟨O1, 0, none⟩), .pointer (some ⟨X, 0, none⟩)] w (Cb B b n I [X] w s (Fs.opM n I o) (fun a w' => RowAt w' X [.int .i64 a]) (fun w' => RowAt w' X [.int .i64 0])) := by
  have hXt' : X ≠ b.t := fun q => hXt (q ▸ b.t_mem)
  have c0 := hO.cell 0 _ rfl
  have c1 := hO.cell 1 _ rfl
  have c2 := hO.cell 2 _ rfl
  have c4 := hO.cell 4 _ rfl
  have HR : Hid (w.rangeAt O1 5 (inoL o.x)) := Lib.hid (fun j v hv => by
    have := hO.range (5 + j) v (by
      show (opL o)[5 + j]? = some v
      rw [show 5 + j = j + 1 + 1 + 1 + 1 + 1 by omega]
      exact hv)
    rwa [Nat.zero_add] at this)
  have HX := Lib.hid hX
  have HH := Lib.hid h
  unfold Fs.opM
  by_cases k0 : o.k = 0
  · rw [if_pos k0]
    have g0 : (o.k == 0) = true := by rw [k0]; rfl
    rw [k0] at c0
    clear hO hX h
    go_enter Tryz.func36, Tryz.ntmps36
    go_wp2_with (first
      | (with_reducible refine wpList_load_mid rfl 31 (.tmp 9) rfl O1 5 rfl (inoL o.x) _ HR.out Tryz.underlying31 rfl (by kernel_rfl) ?_))
    refine (snew_step HH.out o.x).mono ?_
    rintro e w3 (⟨a, s', L, E, G, C, rfl, O⟩ | ⟨er, F, h0, Br, rfl, O⟩)
    · have k1 : RowAt w3 X [.int .i64 0] := HX.out.only O (by simpa using hXt')
      have ff := k1.frozen 0 (show 0 < 1 by decide)
      have cc := k1.cell 0 _ rfl
      have k2 : RowAt (w3.setCell ⟨X, 0, none⟩ (.int .i64 a)) X [.int .i64 a] := RowAt.setOne k1 0 (.int .i64 a) (show 0 < 1 by decide)
      have O2 : Only [X] w3 (w3.setCell ⟨X, 0, none⟩ (.int .i64 a)) := (Only.refl _ w3).setCell (p := ⟨X, 0, none⟩) (by simp) _
      go_wp2_with fail
      go_end0
      refine Or.inl ⟨a, s', L, E, G, C.only O2 (by simpa using fun q => hXB q.symm) (fun i hi q => by rw [List.mem_singleton] at q; subst q; exact hXt hi), rfl, k2, ?_⟩
      have O3 : Only [b.t, X] w w3 := O.mono (by simp)
      exact O3.trans (O2.mono (by simp))
    · refine ⟨rfl, Or.inr ⟨er, F, h0, Br, rfl, HX.out.only O (by simp; exact ⟨hXB, hXt'⟩), O.mono (fun k hk => by simp only [List.mem_cons, List.not_mem_nil, or_false] at hk ⊢; rcases hk with rfl | rfl <;> simp)⟩⟩
  · have g0 : (o.k == 0) = false := by simpa using k0
    rw [if_neg k0]
    have arm : ∀ m e w', Ends B b n I [] w s m (fun _ e _ => e = .returned (.tuple #[])) e w' → Cb B b n I [X] w s (Fs.andThen m fun _ => Fs.ret 0) (fun a w' => RowAt w' X [.int .i64 a]) (fun w' => RowAt w' X [.int .i64 0]) e w' := fun m e w' hE => hE.cb HX.out hXB hXt'
    have HARM := Lib.hid arm
    clear arm hO hX h
    by_cases k1 : o.k = 1
    · rw [if_pos k1]
      have g1 : (o.k == 1) = true := by rw [k1]; rfl
      rw [k1] at c0
      have HC := Lib.hid (schange_step HH.out o.ino o.x)
      go_enter Tryz.func36, Tryz.ntmps36
      go_wp2_with (first
        | (with_reducible refine wpList_load_mid rfl 31 (.tmp 17) rfl O1 5 rfl (inoL o.x) _ HR.out Tryz.underlying31 rfl (by kernel_rfl) ?_))
      refine HC.out.mono ?_
      intro e w3 hE
      have hCb := HARM.out _ _ _ hE
      rcases hE with ⟨a, s', L, E, G, C, rfl, O⟩ | ⟨er, F, h0, Br, rfl, O⟩
      · go_wp2_with fail
        go_end0
        exact hCb
      · exact ⟨rfl, hCb⟩
    · have g1 : (o.k == 1) = false := by simpa using k1
      rw [if_neg k1]
      by_cases k2 : o.k = 2
      · rw [if_pos k2]
        have g2 : (o.k == 2) = true := by rw [k2]; rfl
        rw [k2] at c0
        have HC := Lib.hid (srelease_step HH.out o.ino)
        go_enter Tryz.func36, Tryz.ntmps36
        go_wp2_with fail
        refine HC.out.mono ?_
        intro e w3 hE
        have hCb := HARM.out _ _ _ hE
        rcases hE with ⟨a, s', L, E, G, C, rfl, O⟩ | ⟨er, F, h0, Br, rfl, O⟩
        · go_wp2_with fail
          go_end0
          exact hCb
        · exact ⟨rfl, hCb⟩
      · have g2 : (o.k == 2) = false := by simpa using k2
        rw [if_neg k2]
        by_cases k3 : o.k = 3
        · rw [if_pos k3]
          have g3 : (o.k == 3) = true := by rw [k3]; rfl
          rw [k3] at c0
          have HC := Lib.hid (swrite_step HH.out o.ino o.off o.text ht)
          go_enter Tryz.func36, Tryz.ntmps36
          go_wp2_with fail
          refine HC.out.mono ?_
          intro e w3 hE
          have hCb := HARM.out _ _ _ hE
          rcases hE with ⟨a, s', L, E, G, C, rfl, O⟩ | ⟨er, F, h0, Br, rfl, O⟩
          · go_wp2_with fail
            go_end0
            exact hCb
          · exact ⟨rfl, hCb⟩
        · have g3 : (o.k == 3) = false := by simpa using k3
          rw [if_neg k3]
          by_cases k4 : o.k = 4
          · rw [if_pos k4]
            have g4 : (o.k == 4) = true := by rw [k4]; rfl
            rw [k4] at c0
            have HC := Lib.hid (strunc_step HH.out o.ino o.off)
            go_enter Tryz.func36, Tryz.ntmps36
            go_wp2_with fail
            refine HC.out.mono ?_
            intro e w3 hE
            have hCb := HARM.out _ _ _ hE
            rcases hE with ⟨a, s', L, E, G, C, rfl, O⟩ | ⟨er, F, h0, Br, rfl, O⟩
            · go_wp2_with fail
              go_end0
              exact hCb
            · exact ⟨rfl, hCb⟩
          · have g4 : (o.k == 4) = false := by simpa using k4
            rw [if_neg k4]
            go_enter Tryz.func36, Tryz.ntmps36
            go_wp2_with fail
            go_end0
            exact Or.inl ⟨0, s, [], rfl, Goes.refl s, HH.out, rfl, HX.out, Only.refl _ _⟩
end

section
open Go.RowKit Go.Maps
open Dk (zeros zeros_length)
open Ii (Ino)
def StepTo {α : Type} (n I : Int) (s : Sto) (m : Fs.M α) (er : Int) (s2 : Sto) (a : Option α) : Prop :=
  (∃ x s' L, m (nv s) = (.ok x, nv s', L) ∧ Goes s s' L ∧ Vs s' n I ∧ skeepE s' = 0 ∧ er = 0 ∧ s2 = skeep s' ∧ a = some x) ∨
  (Fails s m er ∧ er ≠ 0 ∧ s2 = sdrop s ∧ a = none) ∨
  (∃ x s' L, m (nv s) = (.ok x, nv s', L) ∧ Goes s s' L ∧ Vs s' n I ∧ skeepE s' ≠ 0 ∧ er = skeepE s' ∧ s2 = sdrop (skeep s') ∧ a = some x)
theorem Stepped.to {α : Type} {V : Nat} {b : Blk} {n I : Int} {s : Sto} {m : Fs.M α} {P : α → World → Prop} {P' : World → Prop} {e : Ending} {w' : World} (h : Stepped V b n I s m P P' e w') :
    ∃ er s2 a, StepTo n I s m er s2 a ∧ e = .returned (.int .i64 er) ∧ VolAt w' V b s2 n I 0 ∧ (match a with | some x => P x w' | none => P' w') := by
  rcases h with ⟨a, s', L, h1, h2, h3, h4, h5, h6, h7⟩ | ⟨er, h1, h2, h3, h4, h5⟩ | ⟨a, s', L, h1, h2, h3, h4, h5, h6, h7⟩
  · exact ⟨0, _, some a, Or.inl ⟨a, s', L, h1, h2, h3, h4, rfl, rfl, rfl⟩, h5, h6, h7⟩
  · exact ⟨er, _, none, Or.inr (Or.inl ⟨h1, h2, rfl, rfl⟩), h3, h4, h5⟩
  · exact ⟨_, _, some a, Or.inr (Or.inr ⟨a, s', L, h1, h2, h3, h4, rfl, rfl, rfl⟩), h5, h6, h7⟩
theorem stable_row (X : Nat) (N : Nat) (v : Value) (_hX : X < N) : Stable [X] N (fun w => RowAt w X [v]) := fun w w' L h ho hk hN => h.only ho (fun q => hk X q (by simp))
theorem op_box (w : World) (o : Fop) : Lo [] w [(w.heap.size, opL o), (w.heap.size + 1, [.int .i64 0])] ((w.alloc (.cells (opL o).toArray 33)).alloc (.cells #[.int .i64 0] 3)) :=
  ((Lo.start w (by simp)).alloc _ rfl (opL o) _).alloc (w.heap.size + 1) (by simp) [.int .i64 0] _
theorem lawDo_any {w : World} {V : Nat} {b : Blk} {s : Sto} {n I : Int} (h : VolAt w V b s n I 0) (v : Vs s n I) (hq : s.q < 4294967290) (o : Fop) (ht : o.text.length ≤ 10000) :
    Calls Tryz.prog 10 #[.pointer (some ⟨V, 0, none⟩), opV o] w fun e w' => ∃ er s2 a, StepTo n I s (Fs.opM n I o) er s2 a ∧ e = .returned (.tuple #[.int .i64 (a.getD 0), .int .i64 er]) ∧ VolAt w' V b s2 n I 0 ∧ Only (V :: b.all) w w' := by
  have hmf : ∀ (fn : Fn) (first cap : Array Value) (w : World), (Instr.makeFunc fn first cap).run Tryz.prog w = .ok (.func fn first cap) w := fun _ _ _ _ => rfl
  have S := op_box w o
  have H1 := (h.alloc (.cells (opL o).toArray 33)).alloc (.cells #[.int .i64 0] 3)
  have hlt := h.row.lt
  have hbl : ∀ k ∈ b.all, k < w.heap.size := fun k hk => h.store.lt k hk
  unfold opV
  go_enter Tryz.func10, Tryz.ntmps10
  go_wp2_with fail
  have hs1 : ((w.alloc (.cells (opL o).toArray 33)).alloc (.cells #[.int .i64 0] 3)).heap.size = w.heap.size + 2 := by simp
  generalize World.alloc _ _ = w1 at S H1 hs1 ⊢
  have rO : RowAt w1 w.heap.size (opL o) := S.get 0 _ rfl
  have rX : RowAt w1 (w.heap.size + 1) [.int .i64 0] := S.get 1 _ rfl
  have hbx : ∀ k, w.heap.size ≤ k → k ∉ b.all := fun k hk q => by have := hbl _ q; omega
  have HD := do_any H1 v hq [w.heap.size + 1] (fun k hk => by rw [List.mem_singleton] at hk; subst hk; exact ⟨by omega, by omega, hbx _ (by omega)⟩) (Fs.opM n I o) (fun a w' => RowAt w' (w.heap.size + 1) [.int .i64 a]) (fun w' => RowAt w' (w.heap.size + 1) [.int .i64 0])
    (fun a => stable_row _ _ _ (by omega)) (stable_row _ _ _ (by omega)) 36 #[.pointer (some ⟨w.heap.size, 0, none⟩), .pointer (some ⟨w.heap.size + 1, 0, none⟩)] (fun args W => by simp [go_sem]) (fun B w2 hB hc ho => by
      have q1 : w.heap.size ∉ [V] := by simp; omega
      have q2 : w.heap.size + 1 ∉ [V] := by simp; omega
      exact opD_any hc o ht w.heap.size (w.heap.size + 1) (rO.only ho q1) (rX.only ho q2) (by omega) (hbx _ (by omega)) (by omega))
  refine HD.mono ?_
  rintro e w3 ⟨hst, hO⟩
  obtain ⟨er, s2, a, hto, rfl, HV3, hPa⟩ := hst.to
  have hr : RowAt w3 (w.heap.size + 1) [.int .i64 (a.getD 0)] := by
    cases a with
    | none => exact hPa
    | some x => exact hPa
  have cc := hr.cell 0 _ rfl
  go_wp2_with fail
  go_ret2
  exact ⟨er, s2, a, hto, rfl, HV3, (S.only.mono (by simp)).via hO (fun i hi => by
    simp only [List.mem_cons, List.mem_append, List.not_mem_nil, or_false] at hi
    rcases hi with rfl | hi | rfl
    · left; simp
    · left; simp [hi]
    · right; omega)⟩
theorem do_over {w : World} {V : Nat} {b : Blk} {s : Sto} {n I k : Int} (h : VolAt w V b s n I k) (hov : s.over = true) (g : Value) : Calls Tryz.prog 12 #[.pointer (some ⟨V, 0, none⟩), g] w fun e w' => e = .returned (.int .i64 5) ∧ Below w.heap.size w w' := by
  have hmf : ∀ (fn : Fn) (first cap : Array Value) (w : World), (Instr.makeFunc fn first cap).run Tryz.prog w = .ok (.func fn first cap) w := fun _ _ _ _ => rfl
  have H1 := h.alloc (.cells #[.pointer (some ⟨V, 0, none⟩)] 25)
  have HV := Lib.hid (vover_any H1)
  rw [hov] at HV
  have HB := below_alloc w (.cells #[.pointer (some ⟨V, 0, none⟩)] 25)
  go_enter_defers Tryz.func12, Tryz.ntmps12
  go_wp2_with (go_at_call 30; (with_reducible refine HV.out.mono ?_); rintro e w' ⟨rfl, rfl⟩)
  simp [bodyPostD, Leaves, settle, results, Tryz.results12, go_sem]
  exact HB
theorem lawDo_bad {w : World} {p : Option Addr} (o : Fop) (hD : ∀ W g, Below w.heap.size w W → Calls Tryz.prog 12 #[.pointer p, g] W fun e w' => e = .returned (.int .i64 5) ∧ Below W.heap.size W w') :
    Calls Tryz.prog 10 #[.pointer p, opV o] w fun e w' => e = .returned (.tuple #[.int .i64 0, .int .i64 5]) ∧ Below w.heap.size w w' := by
  have hmf : ∀ (fn : Fn) (first cap : Array Value) (w : World), (Instr.makeFunc fn first cap).run Tryz.prog w = .ok (.func fn first cap) w := fun _ _ _ _ => rfl
  have S := op_box w o
  unfold opV
  go_enter Tryz.func10, Tryz.ntmps10
  go_wp2_with fail
  have hs1 : ((w.alloc (.cells (opL o).toArray 33)).alloc (.cells #[.int .i64 0] 3)).heap.size = w.heap.size + 2 := by simp
  generalize World.alloc _ _ = w1 at S hs1 ⊢
  have rX : RowAt w1 (w.heap.size + 1) [.int .i64 0] := S.get 1 _ rfl
  refine (hD w1 _ S.bel).mono ?_
  rintro e w3 ⟨rfl, hb⟩
  have cc := (rX.step hb).cell 0 _ rfl
  go_wp2_with fail
  go_ret2
  exact ⟨rfl, S.bel.trans (hb.mono (by omega))⟩
theorem lawDo_over {w : World} {V : Nat} {b : Blk} {s : Sto} {n I k : Int} (h : VolAt w V b s n I k) (hov : s.over = true) (o : Fop) :
    Calls Tryz.prog 10 #[.pointer (some ⟨V, 0, none⟩), opV o] w fun e w' => e = .returned (.tuple #[.int .i64 0, .int .i64 5]) ∧ Below w.heap.size w w' :=
  lawDo_bad o (fun _ g hb => do_over (h.below hb) hov g)
end

section
open Go.RowKit Go.Maps
open Dk (zeros zeros_length)
open Ii (Ino)
open Jn (Chg)
def encs : Nat → List (List UInt8) → List Chg
  | _, [] => []
  | k, p :: r => ⟨(k : Int), p⟩ :: encs (k + 1) r
theorem encs_drop {ps : List (List UInt8)} {k : Nat} {p : List UInt8} (h : ps[k]? = some p) : encs k (ps.drop k) = ⟨(k : Int), p⟩ :: encs (k + 1) (ps.drop (k + 1)) := by
  obtain ⟨q1, q2⟩ := List.getElem?_eq_some_iff.1 h
  rw [List.drop_eq_getElem_cons q1, q2]; rfl
structure Ly (w0 : World) (d l m : Nat) (s : Dk.St) (g : Nat) (ps : List (List UInt8)) (w : World) : Prop where
  disk : DiskAt w d l m s
  rows : RowsAt w g ps
  only : Only [d, l, m] w0 w
theorem Ly.below {w0 w w' : World} {d l m : Nat} {s : Dk.St} {g : Nat} {ps : List (List UInt8)} (h : Ly w0 d l m s g ps w) (hg : g < w.heap.size) (hb : Below w.heap.size w w') : Ly w0 d l m s g ps w' :=
  ⟨h.disk.below hb, h.rows.block (hb.block _ hg), h.only.ofBelow hb⟩
theorem Ly.call {w0 w w' : World} {d l m : Nat} {s s' : Dk.St} {g : Nat} {ps : List (List UInt8)} (h : Ly w0 d l m s g ps w) (hg : g < w.heap.size) (hn : g ∉ [d, l, m]) (hd : DiskAt w' d l m s') (ho : Only [d, l, m] w w') : Ly w0 d l m s' g ps w' :=
  ⟨hd, h.rows.block (ho.block _ hg hn), h.only.trans ho⟩
theorem write_step {w : World} {d l m : Nat} {s : Dk.St} {g : Nat} {ps : List (List UInt8)} {w0 : World} (h : Ly w0 d l m s g ps w) (hg : g < w0.heap.size) (hn : g ∉ [d, l, m]) (i : Int) (p : List UInt8) (hp : p.length = 64) : Calls Tryz.prog 116 #[.pointer (some ⟨d, 0, none⟩), .int .i64 i, pageV p] w fun e w' => e = .returned (.int .i64 (Dk.writeE s i)) ∧ Ly w0 d l m (Dk.write s i p) g ps w' :=
  (write_any h.disk i p hp).mono fun e w' hh => ⟨hh.1, h.call (Nat.lt_of_lt_of_le hg h.only.size) hn hh.2.1 (hh.2.2.mono (by simp))⟩
theorem flush_step {w : World} {d l m : Nat} {s : Dk.St} {g : Nat} {ps : List (List UInt8)} {w0 : World} (h : Ly w0 d l m s g ps w) (hg : g < w0.heap.size) (hn : g ∉ [d, l, m]) : Calls Tryz.prog 117 #[.pointer (some ⟨d, 0, none⟩)] w fun e w' => e = .returned (.int .i64 (Dk.flushE s)) ∧ Ly w0 d l m (Dk.flush s) g ps w' :=
  (flush_any h.disk).mono fun e w' hh => ⟨hh.1, h.call (Nat.lt_of_lt_of_le hg h.only.size) hn hh.2.1 hh.2.2⟩
theorem lay_any {w : World} {d l m : Nat} {s : Dk.St} {g c : Nat} {ps : List (List UInt8)} (h : DiskAt w d l m s) (hr : RowsAt w g ps) (hg : g < w.heap.size) (hn : g ∉ [d, l, m]) (hl : ps.length ≤ 1000) :
    Calls Tryz.prog 74 #[.pointer (some ⟨d, 0, none⟩), .slice (some ⟨g, 0, none⟩) ps.length c] w fun e w' => e = .returned (.int .i64 (Jn.runW s (encs 0 ps)).2) ∧ DiskAt w' d l m (Jn.runW s (encs 0 ps)).1 ∧ Only [d, l, m] w w' := by
  have S0 := Lib.hid (show Ly w d l m s g ps w from ⟨h, hr, Only.refl _ _⟩)
  have HW := Lib.hid (fun (W : World) (s' : Dk.St) (i : Int) (p : List UInt8) (hp : p.length = 64) (hy : Ly w d l m s' g ps W) => write_step hy hg hn i p hp)
  have HF := Lib.hid (fun (W : World) (s' : Dk.St) (hy : Ly w d l m s' g ps W) => flush_step hy hg hn)
  have HB := Lib.hid (fun (W W' : World) (s' : Dk.St) (hy : Ly w d l m s' g ps W) (hb : Below W.heap.size W W') => hy.below (Nat.lt_of_lt_of_le hg hy.only.size) hb)
  obtain ⟨R, hR⟩ : ∃ R, R = Jn.runW s (encs 0 ps) := ⟨_, rfl⟩
  have HRR : Hid (Jn.runW s (encs 0 (ps.drop 0)) = R) := Lib.hid (by rw [List.drop_zero, hR])
  rw [← hR]
  clear h hr hn hR
  obtain ⟨len, hlen⟩ : ∃ len, ps.length = len := ⟨_, rfl⟩
  have HLE := Lib.hid hlen
  rw [hlen] at hl ⊢
  clear hlen
  go_enter Tryz.func74, Tryz.ntmps74
  go_wp2_with fail
  go_loopw [10] (fun i wr => ∃ (k : Nat) (s' : Dk.St), k ≤ len ∧ i = .int .i64 k ∧ Ly w d l m s' g ps wr ∧ Hid (Jn.runW s' (encs k (ps.drop k)) = R)) (fun i _ => len - (intOf i).toNat)
  case atStart => exact ⟨0, s, Nat.zero_le _, rfl, S0.out, HRR⟩
  case round =>
    clear S0 HRR
    obtain ⟨k, s', hk, rfl, hS, HG⟩ := hrel
    have S := Lib.hid hS
    clear hS
    by_cases hlt : k < len
    · obtain ⟨p, hp⟩ : ∃ p, ps[k]? = some p := ⟨_, List.getElem?_eq_getElem (by rw [HLE.out]; exact hlt)⟩
      have HP : Hid (p.length = 64) := Lib.hid (S.out.rows.size p (List.mem_of_getElem? hp))
      rw [encs_drop hp, Jn.runW] at HG
      have HPK := Lib.hid hp
      clear hp
      by_cases hw : Dk.writeE s' (k : Int) = 0
      · have HWK := Lib.hid (fun (W : World) (hy : Ly w d l m s' g ps W) => HW.out W s' (k : Int) p HP.out hy)
        rw [if_pos hw] at HG
        rw [hw] at HWK
        clear hw
        go_wp2_with (first
          | (with_reducible refine wpList_load_row S.out.rows k HPK.out rfl (.tmp 13) rfl rfl ?_)
          | ((with_reducible refine wpList_store_new rfl (.tmp 6) (.tmp 14) rfl rfl ?_ ?_ HP.out ?_); (exact rfl); (exact rfl); intro W2 hP hB2 hz2; have S1 := Lib.hid (HB.out _ _ _ S.out hB2); clear S; have S := Lib.hid S1.out; have PG := Lib.hid hP; clear hP hB2 hz2 S1)
          | (with_reducible refine wpList_load_page PG.out rfl (.tmp 6) rfl rfl ?_)
          | (go_at_call 116; (with_reducible refine (HWK.out _ S.out).mono ?_); rintro e w3 ⟨rfl, hS3⟩; clear S; have S := Lib.hid hS3; clear hS3))
        go_roundw
        case rel => exact ⟨k + 1, _, by omega, by go_num, S.out, HG⟩
        case measure => simp [intOf]; omega
      · have HWK := Lib.hid (fun (W : World) (hy : Ly w d l m s' g ps W) => HW.out W s' (k : Int) p HP.out hy)
        have gk : (Dk.writeE s' (k : Int) == 0) = false := by simpa using hw
        rw [if_neg hw] at HG
        have hR2 := HG.out
        subst hR2
        clear hw HG
        generalize hwe : Dk.writeE s' (k : Int) = we at HWK gk
        have HWE := Lib.hid hwe
        clear hwe
        go_wp2_with (first
          | (with_reducible refine wpList_load_row S.out.rows k HPK.out rfl (.tmp 13) rfl rfl ?_)
          | ((with_reducible refine wpList_store_new rfl (.tmp 6) (.tmp 14) rfl rfl ?_ ?_ HP.out ?_); (exact rfl); (exact rfl); intro W2 hP hB2 hz2; have S1 := Lib.hid (HB.out _ _ _ S.out hB2); clear S; have S := Lib.hid S1.out; have PG := Lib.hid hP; clear hP hB2 hz2 S1)
          | (with_reducible refine wpList_load_page PG.out rfl (.tmp 6) rfl rfl ?_)
          | (go_at_call 116; (with_reducible refine (HWK.out _ S.out).mono ?_); rintro e w3 ⟨rfl, hS3⟩; clear S; have S := Lib.hid hS3; clear hS3))
        go_ret
        exact ⟨by rw [HWE.out]; rfl, S.out.disk, S.out.only⟩
    · obtain rfl : k = len := by omega
      have HZ : Hid (encs k (ps.drop k) = []) := Lib.hid (by rw [List.drop_of_length_le (by rw [HLE.out]; omega)]; rfl)
      rw [HZ.out, Jn.runW] at HG
      have hR2 := HG.out
      subst hR2
      clear HG
      go_wp2_with (go_at_call 117; (with_reducible refine (HF.out _ _ S.out).mono ?_); rintro e w3 ⟨rfl, hS3⟩; clear S; have S := Lib.hid hS3; clear hS3)
      go_ret
      exact ⟨rfl, S.out.disk, S.out.only⟩
end

section
open Go.RowKit Go.Maps
open Dk (zeros zeros_length)
open Ii (Ino)
def rootI : Ino := { k := 2, p := 493, u := 0, l := 2, s := 0, a := 0, b := 0, c := 0, d := 0, e := 0, f := 0 }
def bitsR : List UInt8 := Bt.setB zeros 0 true
def rootP : List UInt8 := Ii.putN zeros 0 rootI
def freshL (I : Int) : List (List UInt8) := ((List.replicate (Pl.dataN I).toNat zeros).set 41 bitsR).set 43 rootP
structure Fr (w : World) (n I : Int) (g : Nat) (ps : List (List UInt8)) (W : World) : Prop where
  rows : RowsAt W g ps
  ge : w.heap.size < g
  lt : g < W.heap.size
  bel : Below w.heap.size w W
  pl : RowAt W w.heap.size (planL n I)
theorem Fr.below {w W W' : World} {n I : Int} {g : Nat} {ps : List (List UInt8)} (h : Fr w n I g ps W) (hb : Below W.heap.size W W') : Fr w n I g ps W' :=
  ⟨h.rows.block (hb.block _ h.lt), h.ge, Nat.lt_of_lt_of_le h.lt hb.size, h.bel.trans (hb.mono h.bel.size), h.pl.step hb⟩
def FrS (w : World) (n I : Int) (g : Nat) (ps : List (List UInt8)) (z q : List UInt8) : Option (Bool × Nat) → World → Prop
  | none, W => Fr w n I g ps W
  | some (false, a), W => Fr w n I g ps W ∧ RowAt W a (byteVals z) ∧ a < W.heap.size
  | some (true, a), W => Fr w n I g ps W ∧ W.rangeAt a 0 (byteVals q) ∧ a < W.heap.size
theorem FrS.fr {w W : World} {n I : Int} {g : Nat} {ps : List (List UInt8)} {z q : List UInt8} : ∀ {k : Option (Bool × Nat)}, FrS w n I g ps z q k W → Fr w n I g ps W
  | none, h => h
  | some (false, _), h => h.1
  | some (true, _), h => h.1
theorem loads_page {B o : Nat} {p : List UInt8} (hp : p.length = 64) (w : World) (h : w.rangeAt B o (byteVals p)) : (loadVar 68 ⟨B, o, none⟩).run Tryz.prog w = .ok (.agg (byteVals p).toArray) w :=
  run_loadVar_mid (P := Tryz.prog) w B o 68 (byteVals p) _ h Tryz.underlying68 rfl (by rw [page_info, byteVals_length, hp])
theorem gives_load_page {o : Oper} {a : Act} {w : World} {b f : Nat} {p : List UInt8} {R : Value → World → Prop} (hp : p.length = 64) (u : Operand) (ho : o.op = .load 68 u) (hx : a.eval u = .pointer (some ⟨b, f, none⟩)) (h : w.rangeAt b f (byteVals p)) (hR : R (.agg (byteVals p).toArray) w) : Gives Tryz.prog (execOp a.eval o) w R := by
  have hl := loads_page hp w h
  unfold Gives execOp
  simp only [ho, hx, Instr.loadAt, Instr.sureAddr, Sem.run_bind, Sem.run_pure, Result.andThen_ok, hl]
  exact hR
theorem gives_store_rows {o : Oper} {a : Act} {w : World} {b : Nat} {ps : List (List UInt8)} {R : Value → World → Prop} {p : List UInt8} (k : RowsAt w b ps) (i : Nat) (hi : i < ps.length) (hp : p.length = 64) (x y : Operand) (ho : o.op = .store 68 x y) (hx : a.eval x = .pointer (some ⟨b, i * 64, none⟩)) (hy : a.eval y = .agg (byteVals p).toArray)
    (hR : R undef (w.setCells b (i * 64) (byteVals p))) : Gives Tryz.prog (execOp a.eval o) w R := by
  have hs := run_storeVar_mid (P := Tryz.prog) w b (i * 64) 68 (byteVals p).toArray (by rw [List.size_toArray, byteVals_length, hp]; exact k.thereAt i hi) (by rw [page_info, List.size_toArray, byteVals_length, hp]) (all_oneCell_toArray (byteVals_one p))
  have hrun : (execOp a.eval o).run Tryz.prog w = .ok .skip (w.setCells b (i * 64) (byteVals p)) ∨ (execOp a.eval o).run Tryz.prog w = .ok (.value undef) (w.setCells b (i * 64) (byteVals p)) := by
    unfold execOp
    simp only [ho, hx, hy, Instr.storeAt, Instr.sureAddr, Sem.run_bind, Sem.run_pure, Result.andThen_ok, hs]
    simp
  unfold Gives
  rcases hrun with h | h <;> (rw [h]; exact hR)
theorem Fr.put {w W : World} {n I : Int} {g : Nat} {ps : List (List UInt8)} (h : Fr w n I g ps W) (i : Nat) (hi : i < ps.length) {p : List UInt8} (hp : p.length = 64) : Fr w n I g (ps.set i p) (W.setCells g (i * 64) (byteVals p)) :=
  ⟨h.rows.put i hi p hp, h.ge, by rw [heap_setCells]; exact h.lt, below_setCells _ (Nat.le_of_lt h.ge) _ _ _ h.bel, h.pl.put_other g _ _ (Nat.ne_of_lt h.ge)⟩
theorem fresh_any {n I : Int} (w : World) (hpl : Pl.rightB n I = true) : Calls Tryz.prog 75 #[planV n I] w fun e w' => ∃ g, e = .returned (.slice (some ⟨g, 0, none⟩) (freshL I).length (freshL I).length) ∧ Fr w n I g (freshL I) w' := by
  obtain ⟨h1, h2, h3, h4⟩ := Pl.right_yes hpl
  have hd := Pl.data_bd h1 h2
  obtain ⟨D, hD⟩ : ∃ D : Nat, Pl.dataN I = (D : Int) := ⟨(Pl.dataN I).toNat, by omega⟩
  have HDA := Lib.hid (fun w => plData_yes n I w hpl)
  have HIB := Lib.hid (fun w => inodeBits_is hpl w)
  have HPL := Lib.hid (fun w => place_yes n I 1 w hpl (by omega) h1)
  have S0 := Lib.hid ((Lo.start (L := []) w (by simp)).alloc _ rfl (planL n I) 63)
  rw [hD] at HDA
  have hmk := fun (W : World) => run_make_pages W D (by omega)
  unfold planV at HDA HIB HPL ⊢
  go_enter Tryz.func75, Tryz.ntmps75
  go_wp2_with (first
    | (with_reducible refine wpList_load_mid rfl 63 (.tmp 1) rfl _ 0 rfl [.int .i64 n, .int .i64 I] _ (S0.out.get 0 _ rfl).range Tryz.underlying63 rfl (by kernel_rfl) ?_)
    | (go_at_call 118; (with_reducible refine (HDA.out _).mono ?_); rintro e w1 ⟨rfl, hb⟩; replace S0 := Lib.hid (S0.out.below hb); clear hb)
    | (with_reducible refine wpList_load_mid rfl 63 (.tmp 1) rfl _ 0 rfl [.int .i64 n, .int .i64 I] _ ((S0.out.get 0 _ rfl).alloc _).range Tryz.underlying63 rfl (by kernel_rfl) ?_)
    | (go_at_call 47; (with_reducible refine (HIB.out _).mono ?_); rintro e w2 ⟨rfl, hb⟩))
  have FR0 := rowsAt_new w1 D 68
  have S1 := Lib.hid ((S0.out.below (below_alloc w1 (.cells (zeroRow D) 68))).below hb)
  have hg1 := S0.out.only.size
  obtain ⟨g, hg⟩ : ∃ g, g = w1.heap.size := ⟨_, rfl⟩
  have F0 : Hid (Fr w n I g (List.replicate D zeros) w2) := Lib.hid ⟨by rw [hg]; exact FR0.block (hb.block _ (by simp)), by rw [hg]; exact (S0.out.row _ (List.mem_cons_self ..)).2.2, by rw [hg]; have := hb.size; simp at this; omega, S1.out.bel, S1.out.get 0 _ rfl⟩
  rw [← hg]
  have hg0 : w.heap.size < g := by have := (S0.out.row _ (List.mem_cons_self ..)).2.2; rw [hg]; exact this
  clear hb FR0 S0 hg hg1 hmk HDA HIB
  generalize hps : List.replicate D zeros = ps at F0
  have hpl2 : ps.length = D := by rw [← hps]; simp
  have hp41 : ps[41]? = some zeros := by rw [← hps, List.getElem?_replicate, if_pos (by omega)]
  have HL := Lib.hid zeros_length
  generalize hz : zeros = z at HL hp41
  have HBS : Hid (∀ a W, RowAt W a (byteVals z) → a < W.heap.size → Calls Tryz.prog 89 #[.int .i64 0, .bool true, .slice (some ⟨a, 0, none⟩) 1 1] W fun e w' => ∃ a' c, e = .returned (.slice (some ⟨a', 0, none⟩) 1 c) ∧ W.heap.size ≤ a' ∧ a' < w'.heap.size ∧ w'.rangeAt a' 0 (byteVals bitsR) ∧ Below W.heap.size W w') := Lib.hid (fun a W hr ha => (bset_any 0 true (some ⟨a, 0, none⟩) 1 1 z W (row_of_page (hr.page HL.out) ha) (by omega)).mono (by
    rintro e w' ⟨v, rfl, ho, hb⟩
    obtain ⟨g, c, rfl, hg1, hg2, hgr⟩ := row_own ho
    exact ⟨g, c, rfl, hg1, hg2, by unfold bitsR; rw [hz]; exact hgr, hb⟩))
  have HQ : Hid (bitsR.length = 64) := Lib.hid (by unfold bitsR; rw [Bt.setB_length, hz]; exact HL.out)
  generalize hq : bitsR = q at HBS HQ
  refine wp_region_linp (FrS w n I g ps z q) (fun _ _ => False) (fun i => i == 7 || i == 8 || i == 9 || i == 10 || i == 12) (fun i => [.slice (some ⟨g, 0, none⟩) D D, .int .i64 41, .int .i64 0, .slice (some ⟨g, 0, none⟩) D D, .int .i64 41, .pointer (some ⟨g, 41 * 64, none⟩), .agg (byteVals z).toArray, undef, undef, undef, undef, .pointer (some ⟨g, 41 * 64, none⟩), undef].getD i undef) none (by kernel_rfl) (by kernel_rfl) (fun _ _ _ _ h => h.elim) (show FrS w n I g ps z q none _ from F0.out.below ((Below.refl _ _).drew)) ?_
  refine linp_step (i := 0) (d := some 12) (v := (.slice (some ⟨g, 0, none⟩) D D)) rfl rfl (by kernel_rfl) (by kernel_rfl) rfl rfl (ord_value (by kernel_rfl) ?_) ?_
  · ((intro _ _ _; go_simp) <;> kernel_rfl)
  try simp only [Act.put, puA, puB, puC]
  refine linp_step (i := 1) (d := some 13) (v := (.int .i64 41)) rfl rfl (by kernel_rfl) (by kernel_rfl) rfl rfl (ord_value (by kernel_rfl) ?_) ?_
  · ((intro _ _ _; go_simp) <;> kernel_rfl)
  try simp only [Act.put, puA, puB, puC]
  refine linp_step (i := 2) (d := some 14) (v := (.int .i64 0)) rfl rfl (by kernel_rfl) (by kernel_rfl) rfl rfl (ord_call (f := 48) (args := #[.int .i64 1]) (by kernel_rfl) ?_ (fun k W hS => (inodeBit_any 1 W (by omega)).mono fun e w' hh => ⟨hh.1, hh.2 ▸ hS⟩)) ?_
  · (intro _; go_simp)
  try simp only [Act.put, puA, puB, puC]
  refine linp_step (i := 3) (d := some 15) (v := (.slice (some ⟨g, 0, none⟩) D D)) rfl rfl (by kernel_rfl) (by kernel_rfl) rfl rfl (ord_value (by kernel_rfl) ?_) ?_
  · ((intro _ _ _; go_simp) <;> kernel_rfl)
  try simp only [Act.put, puA, puB, puC]
  refine linp_step (i := 4) (d := some 16) (v := (.int .i64 41)) rfl rfl (by kernel_rfl) (by kernel_rfl) rfl rfl (ord_value (by kernel_rfl) ?_) ?_
  · ((intro _ _ _; go_simp) <;> kernel_rfl)
  try simp only [Act.put, puA, puB, puC]
  have h41 : 41 < D := by omega
  refine linp_step (i := 5) (d := some 17) (v := .pointer (some ⟨g, 41 * 64, none⟩)) rfl rfl (by kernel_rfl) (by kernel_rfl) rfl rfl (ord_value (by kernel_rfl) ?_) ?_
  · intro k W hS
    go_simp
    omega
  try simp only [Act.put, puA, puB, puC]
  refine linp_step (i := 6) (d := some 18) (v := (.agg (byteVals z).toArray)) rfl rfl (by kernel_rfl) (by kernel_rfl) rfl rfl (ord_mid (loads_page HL.out) (by kernel_rfl) (.tmp 17) rfl rfl (fun k W hS => (FrS.fr hS).rows.range 41 z hp41)) ?_
  try simp only [Act.put, puA, puB, puC]
  refine linp_turnD (i := 7) (d := some 19) [8, 9, 10, 12] (fun u k => ∃ a, u = .slice (some ⟨a, 0, none⟩) 1 1 ∧ k = some (false, a)) rfl rfl (by kernel_rfl) (by kernel_rfl) rfl (by kernel_rfl) ⟨_, _, 0, rfl, rfl⟩ (by kernel_rfl) (fun W hS => ?_) ?_
  · have hbl : (byteVals z).length = 64 := by rw [byteVals_length]; exact HL.out
    unfold GivesP
    go_simp
    rw [fold_page rfl HL.out]
    go_simp
    exact ⟨Fr.below hS (below_alloc _ _), rowAt_new W (byteVals z) _, by simp⟩
  rintro _ _ ⟨a, rfl, rfl⟩
  try simp only [Act.put, puA, puB, puC]
  refine linp_turnD (i := 8) (d := some 20) [9, 10, 12] (fun u k => ∃ a' c, u = .slice (some ⟨a', 0, none⟩) 1 c ∧ k = some (true, a')) rfl rfl (by kernel_rfl) (by kernel_rfl) rfl (by kernel_rfl) ⟨_, _, 0, 0, rfl, rfl⟩ (by kernel_rfl) (gives_all (f := 89) (args := #[.int .i64 0, .bool true, .slice (some ⟨a, 0, none⟩) 1 1]) ?_ (fun W hS => (HBS.out a W hS.2.1 hS.2.2).mono fun e w' hh => by
    obtain ⟨a', c, rfl, _, k2, k3, k4⟩ := hh
    exact Or.inl ⟨_, rfl, some (true, a'), ⟨a', c, rfl, rfl⟩, hS.1.below k4, k3, k2⟩)) ?_
  · (intro _; go_simp)
  rintro _ _ ⟨a', c, rfl, rfl⟩
  try simp only [Act.put, puA, puB, puC]
  refine linp_turnD (i := 9) (d := some 21) [10, 12] (fun u k => u = .pointer (some ⟨a', 0, none⟩) ∧ k = some (true, a')) rfl rfl (by kernel_rfl) (by kernel_rfl) rfl (by kernel_rfl) ⟨_, _, rfl, rfl⟩ (by kernel_rfl) (fun W hS => ?_) ?_
  · unfold GivesP
    go_simp
  rintro _ _ ⟨rfl, rfl⟩
  try simp only [Act.put, puA, puB, puC]
  refine linp_turnD (i := 10) (d := some 22) [12] (fun u k => u = .agg (byteVals q).toArray ∧ k = some (true, a')) rfl rfl (by kernel_rfl) (by kernel_rfl) rfl (by kernel_rfl) ⟨_, _, rfl, rfl⟩ (by kernel_rfl) (fun W hS => givesP_of (gives_load_page HQ.out (.tmp 21) rfl rfl hS.2.1 ⟨_, ⟨rfl, rfl⟩, hS⟩)) ?_
  rintro _ _ ⟨rfl, rfl⟩
  try simp only [Act.put, puA, puB, puC]
  refine linp_step (i := 11) (d := some 23) (v := .pointer (some ⟨g, 41 * 64, none⟩)) rfl rfl (by kernel_rfl) (by kernel_rfl) rfl rfl (ord_value (by kernel_rfl) ?_) ?_
  · intro k W hS
    go_simp
    omega
  try simp only [Act.put, puA, puB, puC]
  refine linp_last (i := 12) (d := none) rfl rfl (by kernel_rfl) rfl (by kernel_rfl) (by kernel_rfl) fun W hS => givesP_of (gives_store_rows (p := q) (FrS.fr hS).rows 41 (by omega) HQ.out (.tmp 23) (.tmp 22) rfl rfl rfl ?_)
  have F1 := Lib.hid ((FrS.fr hS).put 41 (by omega) HQ.out)
  clear hS F0
  generalize World.setCells _ _ _ _ = w3 at F1 ⊢
  try simp only [Act.put, puA, puB, puC]
  have HPUT : Hid (∀ W, Calls Tryz.prog 88 #[pageV z, .int .i64 0, .agg #[.int .i64 2, .int .i64 493, .int .i64 0, .int .i64 2, .int .i64 0, .int .i64 0, .int .i64 0, .int .i64 0, .int .i64 0, .int .i64 0, .int .i64 0]] W fun e w' => e = .returned (pageV rootP) ∧ Below W.heap.size W w') := Lib.hid (fun W => by
    have := iput_any z 1 rootI W HL.out
    unfold rootP
    rw [hz]
    exact this)
  have HRL : Hid (rootP.length = 64) := Lib.hid (by unfold rootP; rw [hz]; exact Ii.putN_length z 0 rootI HL.out (by omega))
  have hp43 : (ps.set 41 q)[43]? = some z := by rw [List.getElem?_set_ne (by omega), ← hps, List.getElem?_replicate, if_pos (by omega), hz]
  have hfl : freshL I = (ps.set 41 q).set 43 rootP := by unfold freshL; rw [hD, Int.toNat_natCast, hq, ← hps, hz]
  have hfn : (freshL I).length = D := by rw [hfl]; simp [hpl2]
  have HFL := Lib.hid hfl
  have HFN := Lib.hid hfn
  generalize rootP = rp at HPUT HRL HFL
  clear hps hq hz hfl hfn
  generalize hps2 : ps.set 41 q = ps2 at F1 hp43 HFL
  have hpl3 : ps2.length = D := by rw [← hps2]; simp [hpl2]
  clear hps2 hp41 hpl2 HQ HBS
  have h43 : 43 < D := by omega
  go_wp2_with (first
    | (with_reducible refine wpList_load_mid rfl 63 (.tmp 1) rfl _ 0 rfl [.int .i64 n, .int .i64 I] _ F1.out.pl.range Tryz.underlying63 rfl (by kernel_rfl) ?_)
    | (go_at_call 86; (with_reducible refine (HPL.out _).mono ?_); rintro e w4 ⟨rfl, hb⟩; replace F1 := Lib.hid (F1.out.below hb); clear hb)
    | (with_reducible refine wpList_load_row F1.out.rows 43 hp43 rfl (.tmp 33) rfl rfl ?_)
    | (go_at_call 88; (with_reducible refine (HPUT.out _).mono ?_); rintro e w5 ⟨rfl, hb⟩; replace F1 := Lib.hid (F1.out.below hb); clear hb)
    | (with_reducible refine wpList_store_row F1.out.rows 43 (by omega) HRL.out rfl (.tmp 38) (.tmp 37) rfl rfl rfl ?_))
  have F2 := Lib.hid (F1.out.put 43 (by omega) HRL.out)
  go_ret
  exact ⟨g, by rw [HFN.out]; rfl, by rw [HFL.out]; exact F2.out⟩
end

section
open Dk (zeros zeros_length)
open Go.RowKit
def markS : ByteArray := { data := #[78, 82, 84, 88] }
theorem setMark_any (w : World) : Calls Tryz.prog 54 #[pageV zeros, .int .i64 0, .string markS] w fun e w' => e = .returned (pageV (Pg.setTextN Pl.zero64 0 Pl.markB)) ∧ Below w.heap.size w w' :=
  setText_any zeros 0 markS w zeros_length (by decide)
theorem super_box (w : World) (p i : Int) {w' : World} (hb : Below (w.heap.size + 2) ((w.alloc (.cells #[.int .i64 p, .int .i64 i] 63)).alloc (.cells zeroCells 68)) w') :
    RowAt w' w.heap.size (planL p i) ∧ PageAt w' (w.heap.size + 1) zeros ∧ Below w.heap.size w w' := by
  have h0 := (rowAt_new w (planL p i) 63).alloc (.cells zeroCells 68)
  have h1 := pageAt_zeros (w.alloc (.cells (planL p i).toArray 63)) 68
  rw [World.size_alloc] at h1
  have hs := hb.size
  simp at hs
  exact ⟨h0.below hb (by omega), h1.below hb (by omega), (((Below.refl _ _).alloc (Nat.le_refl _) _).alloc (by simp) _).trans (hb.mono (by omega))⟩
theorem super_no (p i : Int) (w : World) (h : Pl.rightB p i = false) :
    Calls Tryz.prog 73 #[planV p i] w fun e w' => e = .returned (.tuple #[pageV zeros, .int .i64 22]) ∧ Below w.heap.size w w' := by
  have HZ := Lib.hid (fun (w' : World) hb => super_box w p i (w' := w') hb)
  rw [zeroCells_def] at HZ
  have HL := Lib.hid zeros_length
  have hq : pageV zeros = .agg zeroCells := rfl
  rw [zeroCells_def] at hq
  have HQ := Lib.hid hq; clear hq
  unfold planV
  go_enter Tryz.func73, Tryz.ntmps73
  go_wp2_with (first
    | (go_at_call 106; refine (right_is p i _ _ h).mono ?_; rintro e w3 ⟨rfl, hb⟩; have HB := Lib.hid (HZ.out w3 (by simpa using hb)); clear hb)
    | ((with_reducible refine wpList_store_page (q := zeros) HB.out.2.1 HL.out rfl (.tmp 2) (.tmp 8) rfl rfl ?_ ?_); (exact HQ.out.symm)))
  exact bodyPost_ret (results_page2 _ 2 3 rfl _ (HB.out.2.1.put _ HL.out) rfl rfl) rfl ⟨rfl, below_setCells _ (by omega) _ _ _ HB.out.2.2⟩
structure SupS (w0 : World) (v : Value) (vs : List Value) (D : Nat) (q : List UInt8) (W : World) : Prop where
  own : RowAt W w0.heap.size (v :: vs)
  res : PageAt W (w0.heap.size + 1) zeros
  page : PageAt W D q
  gt : w0.heap.size + 1 < D
  below : Below w0.heap.size w0 W
theorem SupS.call {w0 : World} {v : Value} {vs : List Value} {D : Nat} {q : List UInt8} {W W' : World} (k : SupS w0 v vs D q W) (hb : Below W.heap.size W W') : SupS w0 v vs D q W' :=
  ⟨k.own.step hb, k.res.step hb, k.page.step hb, k.gt, k.below.trans (hb.mono k.below.size)⟩
theorem SupS.put {w0 : World} {v : Value} {vs : List Value} {D : Nat} {q : List UInt8} {W : World} (k : SupS w0 v vs D q W) (q' : List UInt8) (hq : q'.length = 64) : SupS w0 v vs D q' (W.setCells D 0 (byteVals q')) :=
  ⟨k.own.put_other _ _ _ (by have := k.gt; omega), k.res.put_other _ _ _ (by have := k.gt; omega), k.page.put q' hq, k.gt, below_setCells _ (by have := k.gt; omega) _ _ _ k.below⟩
theorem SupS.back {w0 : World} {v : Value} {vs : List Value} {D : Nat} {q : List UInt8} {W : World} (k : SupS w0 v vs D q W) (q' : List UInt8) (hq : q'.length = 64) :
    PageAt (W.setCells (w0.heap.size + 1) 0 (byteVals q')) (w0.heap.size + 1) q' ∧ Below w0.heap.size w0 (W.setCells (w0.heap.size + 1) 0 (byteVals q')) :=
  ⟨k.res.put q' hq, below_setCells _ (by omega) _ _ _ k.below⟩
theorem super_yes (p i : Int) (w : World) (h : Pl.rightB p i = true) :
    Calls Tryz.prog 73 #[planV p i] w fun e w' => e = .returned (.tuple #[pageV (Pl.superP p i), .int .i64 0]) ∧ Below w.heap.size w w' := by
  have HZ := Lib.hid (fun (w' : World) hb => super_box w p i (w' := w') hb)
  rw [zeroCells_def] at HZ
  have L0 := Lib.hid Pl.mark_length
  have L1 := Lib.hid (Pl.mid_length p)
  have L2 := Lib.hid (Pl.super_length p i)
  have C0 := Lib.hid (fun w => setMark_any w)
  have C1 := Lib.hid (fun w => set_any (Pg.setTextN Pl.zero64 0 Pl.markB) 4 2 p w Pl.mark_length (by omega) (by omega))
  have C2 := Lib.hid (fun w => set_any (Pg.setN (Pg.setTextN Pl.zero64 0 Pl.markB) 4 2 p) 6 2 i w (Pl.mid_length p) (by omega) (by omega))
  change Hid (∀ w, Calls Tryz.prog _ _ w fun e w' => e = .returned (pageV (Pl.superP p i)) ∧ _) at C2
  generalize Pl.superP p i = q2 at L2 C2 ⊢
  generalize Pg.setN (Pg.setTextN Pl.zero64 0 Pl.markB) 4 2 p = q1 at L1 C1 C2
  generalize Pg.setTextN Pl.zero64 0 Pl.markB = q0 at L0 C0 C1
  unfold planV
  go_enter Tryz.func73, Tryz.ntmps73
  go_wp2_with (go_at_call 106; refine (right_is p i _ _ h).mono ?_; rintro e w3 ⟨rfl, hb⟩; have HB := Lib.hid (HZ.out w3 (by simpa using hb)); clear hb)
  rw [← zeroCells_def]
  refine (C0.out _).mono ?_
  rintro e w4 ⟨rfl, hb4⟩
  have H4 : Hid (RowAt w4 w.heap.size (planL p i) ∧ PageAt w4 (w.heap.size + 1) zeros ∧ Below w.heap.size w w4 ∧ w.heap.size + 1 < w4.heap.size) := Lib.hid ⟨HB.out.1.step hb4, HB.out.2.1.step hb4, HB.out.2.2.trans (hb4.mono HB.out.2.2.size), (HB.out.2.1.step hb4).lt⟩
  clear HB HZ hb4
  generalize zeroCells = Z
  go_wp2_with (first
    | ((with_reducible refine wpList_store_new rfl (.tmp 4) (.tmp 10) rfl rfl ?_ ?_ L0.out ?_); (exact rfl); (exact rfl); intro W5 hP hb5 hz5; have S5 : Hid (SupS w (.int .i64 p) [.int .i64 i] w4.heap.size q0 W5) := Lib.hid ⟨H4.out.1.step hb5, H4.out.2.1.step hb5, hP, H4.out.2.2.2, H4.out.2.2.1.trans (hb5.mono H4.out.2.2.1.size)⟩; clear hP hb5 hz5 H4; generalize w4.heap.size = D at S5 ⊢; have c5 := S5.out.own.cell 0 _ rfl)
    | (with_reducible refine wpList_load_page S5.out.page rfl (.tmp 4) rfl rfl ?_)
    | (go_at_call 115; refine (C1.out _).mono ?_; rintro e w6 ⟨rfl, hb6⟩; have S6 := Lib.hid (S5.out.call hb6); clear S5 hb6 c5 C1)
    | ((with_reducible refine wpList_store_page S6.out.page L1.out rfl (.tmp 4) (.tmp 14) rfl rfl rfl ?_); have S7 := Lib.hid (S6.out.put _ L1.out); clear S6; generalize w6.setCells D 0 (byteVals q1) = w7 at S7 ⊢; have c7 := S7.out.own.cell 1 _ rfl)
    | (with_reducible refine wpList_load_page S7.out.page rfl (.tmp 4) rfl rfl ?_)
    | (go_at_call 115; refine (C2.out _).mono ?_; rintro e w8 ⟨rfl, hb8⟩; have S8 := Lib.hid (S7.out.call hb8); clear S7 hb8 c7)
    | (with_reducible refine wpList_store_page S8.out.res L2.out rfl (.tmp 2) (.tmp 18) rfl rfl rfl ?_))
  have hq := S8.out.back q2 L2.out
  refine bodyPost_ret (results_page2 _ 2 3 rfl _ hq.1 rfl rfl) rfl ⟨rfl, hq.2⟩
end

section
open Go.RowKit Go.Maps
open Dk (zeros zeros_length)
open Ii (Ino)
open Jn (Chg Cl)
theorem encs_lay : ∀ (ps : List (List UInt8)) (k : Nat), encs k ps = Jn.layAt k ps
  | [], _ => rfl
  | p :: r, k => by rw [encs, Jn.layAt, encs_lay r (k + 1)]
def fmtP (n I : Int) (i : Nat) : List UInt8 := if i = 0 then Pl.superP n I else if i = 41 then bitsR else if i = 43 then rootP else zeros
structure Fmt (s : Dk.St) (n I : Int) : Prop where
  cl : Cl s
  lim : s.lim = false
  len : (s.last.length : Int) = n
  pages : ∀ i, i < s.last.length → s.last.getD i [] = fmtP n I i
theorem run_fine {s : Dk.St} {cs : List Chg} (h : Cl s) (hl : s.lim = false) (hv : Jn.Val s.last.length cs) : (Jn.runW s cs).2 = 0 ∧ Cl (Jn.runW s cs).1 ∧ (Jn.runW s cs).1.lim = false ∧ (Jn.runW s cs).1.last = Jn.upd s.last cs := by
  rcases Jn.runW_spec cs s h.ok h.up hv with ⟨a1, a2, a3, a4⟩ | ⟨_, a2, _⟩
  · exact ⟨a1, a2, a3.trans hl, by rw [a4, Jn.nows_clean h.clean]⟩
  · rw [hl] at a2; cases a2
theorem lay_val {n : Nat} {ps : List (List UInt8)} (h : ps.length ≤ n) (hp : ∀ p ∈ ps, p.length = 64) : Jn.Val n (encs 0 ps) := by
  rw [encs_lay]
  intro c hc
  obtain ⟨h1, h2, h3, h4⟩ := Jn.layAt_mem ps 0 c hc
  refine ⟨?_, hp _ h4⟩
  rw [h3]
  exact Dk.has_mk (by omega)
theorem bitsR_length : bitsR.length = 64 := by unfold bitsR; rw [Bt.setB_length]; exact zeros_length
theorem rootP_length : rootP.length = 64 := Ii.putN_length _ _ _ zeros_length (by omega)
theorem freshL_pages (I : Int) : ∀ p ∈ freshL I, p.length = 64 := fun p hp => by
  unfold freshL at hp
  rcases List.mem_or_eq_of_mem_set hp with hp | rfl
  · rcases List.mem_or_eq_of_mem_set hp with hp | rfl
    · rw [List.eq_of_mem_replicate hp]; exact zeros_length
    · exact bitsR_length
  · exact rootP_length
theorem freshL_len (I : Int) : (freshL I).length = (Pl.dataN I).toNat := by unfold freshL; simp
theorem freshL_at {n I : Int} (hd : 44 ≤ Pl.dataN I) (i : Nat) (hi : i < (Pl.dataN I).toNat) (h0 : i ≠ 0) : (freshL I).getD i [] = fmtP n I i := by
  unfold freshL fmtP
  rw [if_neg h0, List.getD_eq_getElem?_getD]
  by_cases c1 : i = 43
  · subst c1
    rw [List.getElem?_set_self (by simp; omega)]; rfl
  · rw [List.getElem?_set_ne (fun q => c1 q.symm)]
    by_cases c2 : i = 41
    · subst c2
      rw [List.getElem?_set_self (by simp; omega), if_pos rfl]; rfl
    · rw [List.getElem?_set_ne (fun q => c2 q.symm), if_neg c2, if_neg c1, List.getElem?_replicate, if_pos hi]; rfl
theorem fmt_made {N : Nat} {I : Int} (hpl : Pl.rightB (N : Int) I = true) :
    (Jn.runW (Dk.fresh N) (encs 0 (freshL I))).2 = 0 ∧ (Jn.runW (Jn.runW (Dk.fresh N) (encs 0 (freshL I))).1 (encs 0 [Pl.superP (N : Int) I])).2 = 0 ∧
    Fmt (Jn.runW (Jn.runW (Dk.fresh N) (encs 0 (freshL I))).1 (encs 0 [Pl.superP (N : Int) I])).1 (N : Int) I := by
  obtain ⟨h1, h2, h3, h4⟩ := Pl.right_yes hpl
  have hd := Pl.data_bd h1 h2
  have hc : Cl (Dk.fresh N) := fresh_cl (by omega) (by omega)
  have hlen := fresh_len N
  have hfl := freshL_len I
  obtain ⟨a1, a2, a3, a4⟩ := run_fine hc rfl (lay_val (ps := freshL I) (n := (Dk.fresh N).last.length) (by rw [hlen, hfl]; omega) (freshL_pages I))
  generalize (Jn.runW (Dk.fresh N) (encs 0 (freshL I))) = R1 at a1 a2 a3 a4 ⊢
  have hl1 : R1.1.last.length = N := by rw [a4, Jn.upd_length, hlen]
  obtain ⟨b1, b2, b3, b4⟩ := run_fine a2 a3 (lay_val (ps := [Pl.superP (N : Int) I]) (n := R1.1.last.length) (by rw [hl1]; simp; omega) (fun p hp => by rw [List.mem_singleton] at hp; subst hp; exact Pl.super_length _ _))
  refine ⟨a1, b1, ⟨b2, b3, by rw [b4, Jn.upd_length, hl1], fun i hi => ?_⟩⟩
  rw [b4, Jn.upd_length, hl1] at hi
  rw [b4, encs_lay]
  show (Jn.upd R1.1.last [⟨((0 : Nat) : Int), _⟩]).getD i [] = _
  by_cases h0 : i = 0
  · subst h0
    rw [Jn.upd_one_at (by omega)]
    unfold fmtP; rw [if_pos rfl]
  · rw [Jn.upd_one_other h0, a4, encs_lay]
    by_cases hD : i < (Pl.dataN I).toNat
    · have := Jn.upd_layAt (freshL I) 0 (Dk.fresh N).last i (by rw [hfl]; exact hD) (by rw [hlen, hfl]; omega)
      rw [Nat.zero_add] at this
      rw [this, freshL_at (n := (N : Int)) hd.1 i hD h0]
    · rw [Jn.upd_other _ _ _ (fun c hc => by
        obtain ⟨_, q2, _, _⟩ := Jn.layAt_mem _ _ _ hc
        rw [hfl] at q2; omega), fresh_at hi]
      unfold fmtP
      rw [if_neg h0, if_neg (by omega), if_neg (by omega)]
structure Dy (w : World) (d l m : Nat) (s : Dk.St) (W : World) : Prop where
  disk : DiskAt W d l m s
  only : Only [d, l, m] w W
theorem Dy.below {w W W' : World} {d l m : Nat} {s : Dk.St} (h : Dy w d l m s W) (hb : Below W.heap.size W W') : Dy w d l m s W' := ⟨h.disk.below hb, h.only.ofBelow hb⟩
theorem format_new {w : World} {d l m N : Nat} {I : Int} (h : DiskAt w d l m (Dk.fresh N)) (hpl : Pl.rightB (N : Int) I = true) : Calls Tryz.prog 32 #[.pointer (some ⟨d, 0, none⟩), .int .i64 I] w fun e w' => e = .returned (.int .i64 0) ∧ Only [d, l, m] w w' ∧ ∃ s, Fmt s (N : Int) I ∧ DiskAt w' d l m s := by
  obtain ⟨f1, f2, f3⟩ := fmt_made hpl
  have HF3 := Lib.hid f3
  have HD := Lib.hid (show Dy w d l m (Dk.fresh N) w from ⟨h, Only.refl _ _⟩)
  have HDN := Lib.hid (down_any h)
  have HPG := Lib.hid (pages_any h)
  rw [fresh_len] at HPG
  have hup : (Dk.fresh N).down = false := rfl
  rw [hup] at HDN
  have HSU : Hid (∀ W, Calls Tryz.prog 73 #[.agg #[.int .i64 (N : Int), .int .i64 I]] W fun e w' => e = .returned (.tuple #[pageV (Pl.superP (N : Int) I), .int .i64 0]) ∧ Below W.heap.size W w') := Lib.hid (fun W => super_yes (N : Int) I W hpl)
  have HFR : Hid (∀ W, Calls Tryz.prog 75 #[.agg #[.int .i64 (N : Int), .int .i64 I]] W fun e w' => ∃ g, e = .returned (.slice (some ⟨g, 0, none⟩) (freshL I).length (freshL I).length) ∧ Fr W (N : Int) I g (freshL I) w') := Lib.hid (fun W => fresh_any W hpl)
  have hll : (freshL I).length ≤ 1000 := by
    rw [freshL_len]
    obtain ⟨h1, h2, h3, h4⟩ := Pl.right_yes hpl
    have hd := Pl.data_bd h1 h2
    omega
  have HLD : Hid (d < w.heap.size ∧ l < w.heap.size ∧ m < w.heap.size) := Lib.hid ⟨h.dlt, h.llt, h.mlt⟩
  have HL1 : Hid (∀ W g c, Dy w d l m (Dk.fresh N) W → RowsAt W g (freshL I) → g < W.heap.size → w.heap.size ≤ g → Calls Tryz.prog 74 #[.pointer (some ⟨d, 0, none⟩), .slice (some ⟨g, 0, none⟩) (freshL I).length c] W fun e w' => e = .returned (.int .i64 0) ∧ Dy w d l m (Jn.runW (Dk.fresh N) (encs 0 (freshL I))).1 w' ∧ Only [d, l, m] W w') := Lib.hid (fun W g c hd hr hg hg2 => by
    have hh := HLD.out
    have := lay_any (c := c) hd.disk hr hg (by simp; omega) hll
    rw [f1] at this
    exact this.mono fun e w' hh => ⟨hh.1, ⟨hh.2.1, hd.only.trans hh.2.2⟩, hh.2.2⟩)
  have HL2 : Hid (∀ W g c, Dy w d l m (Jn.runW (Dk.fresh N) (encs 0 (freshL I))).1 W → RowsAt W g [Pl.superP (N : Int) I] → g < W.heap.size → w.heap.size ≤ g → Calls Tryz.prog 74 #[.pointer (some ⟨d, 0, none⟩), .slice (some ⟨g, 0, none⟩) 1 c] W fun e w' => e = .returned (.int .i64 0) ∧ Dy w d l m (Jn.runW (Jn.runW (Dk.fresh N) (encs 0 (freshL I))).1 (encs 0 [Pl.superP (N : Int) I])).1 w') := Lib.hid (fun W g c hd hr hg hg2 => by
    have hh := HLD.out
    have := lay_any (c := c) hd.disk hr hg (by simp; omega) (by simp)
    rw [f2] at this
    exact this.mono fun e w' hh => ⟨hh.1, hh.2.1, hd.only.trans hh.2.2⟩)
  have HSL : Hid ((Pl.superP (N : Int) I).length = 64) := Lib.hid (Pl.super_length _ _)
  clear h hpl hup f1 f2 f3 hll
  generalize Pl.superP (N : Int) I = sp at HSU HL2 HSL HF3
  generalize freshL I = fl at HFR HL1 HL2 HF3
  generalize (Jn.runW (Jn.runW (Dk.fresh N) (encs 0 fl)).1 (encs 0 [sp])).1 = s2 at HL2 HF3
  generalize (Jn.runW (Dk.fresh N) (encs 0 fl)).1 = s1 at HL1 HL2
  generalize Dk.fresh N = s0 at HD HL1
  have hbl : (byteVals sp).length = 64 := by rw [byteVals_length]; exact HSL.out
  have S0 := Lib.hid ((Lo.start (L := [d, l, m]) w (by have := HLD.out; simp; omega)).alloc _ rfl [.int .i64 (N : Int), .int .i64 I] 63)
  go_enter Tryz.func32, Tryz.ntmps32
  go_wp2_with (first
    | (go_at_call 60; (with_reducible refine HDN.out.mono ?_); rintro e w1 ⟨rfl, rfl⟩)
    | (go_at_call 72; (with_reducible refine HPG.out.mono ?_); rintro e w1 ⟨rfl, rfl⟩)
    | (go_at_call 73; (with_reducible refine (HSU.out _).mono ?_); rintro e w1 ⟨rfl, hb⟩; have S := Lib.hid (S0.out.below hb); have HD1 := Lib.hid ((HD.out.below (below_alloc _ _)).below hb); clear hb S0 HD)
    | ((with_reducible refine wpList_store_new rfl (.tmp 6) (.tmp 18) rfl rfl ?_ ?_ HSL.out ?_); (exact rfl); (exact rfl); intro W2 hP hB2 hz2; have S2 := Lib.hid (S.out.made hP.rowAt hB2 hz2); have HD2 := Lib.hid (HD1.out.below hB2); clear hP hB2 hz2 S HD1)
    | (with_reducible refine wpList_load_mid rfl 63 (.tmp 5) rfl _ 0 rfl [.int .i64 (N : Int), .int .i64 I] _ (S2.out.get 0 _ rfl).range Tryz.underlying63 rfl (by kernel_rfl) ?_)
    | (go_at_call 75; (with_reducible refine (HFR.out _).mono ?_); rintro e w3 ⟨g, rfl, hfr⟩; have S3 := Lib.hid (S2.out.below hfr.bel); have HD3 := Lib.hid (HD2.out.below hfr.bel); have hgw : w.heap.size ≤ g := (by have := S2.out.only.size; have := hfr.ge; omega); have HFP := Lib.hid hfr; clear hfr S2 HD2)
    | (go_at_call 74; (with_reducible refine (HL1.out _ g _ HD3.out HFP.out.rows HFP.out.lt hgw).mono ?_); rintro e w4 ⟨rfl, hd4, ho4⟩; have S4 := Lib.hid (S3.out.call ho4 (fun k hk => hk)); have HD4 := Lib.hid hd4; clear hd4 ho4 S3 HD3 HFP)
    | (with_reducible refine wpList_load_mid rfl 68 (.tmp 6) rfl _ 0 rfl (byteVals sp) _ (S4.out.get 1 _ rfl).range Tryz.underlying68 rfl (by rw [page_info, byteVals_length, HSL.out]) ?_))
  rw [fold_page rfl HSL.out]
  have HR5 : Hid (RowsAt (w4.alloc (.cells (byteVals sp).toArray 68)) w4.heap.size [sp]) := Lib.hid (by
    have hr := rowAt_new w4 (byteVals sp) 68
    refine ⟨fun p hp => by rw [List.mem_singleton] at hp; subst hp; exact HSL.out, fun i p hp => ?_, ?_⟩
    · have hi : i = 0 := by have := (List.getElem?_eq_some_iff.1 hp).1; simpa using this
      subst hi
      simp only [List.getElem?_cons_zero, Option.some.injEq] at hp
      subst hp
      exact hr.range
    · have := hr.free
      rw [hbl] at this
      exact this)
  have HD5 := Lib.hid (HD4.out.below (below_alloc w4 (.cells (byteVals sp).toArray 68)))
  have hg5 : w4.heap.size < (w4.alloc (.cells (byteVals sp).toArray 68)).heap.size := by simp
  have hg6 := S4.out.only.size
  generalize World.alloc _ _ = w5 at HR5 HD5 hg5 ⊢
  go_wp2_with (go_at_call 74; (with_reducible refine (HL2.out _ _ _ HD5.out HR5.out hg5 hg6).mono ?_); rintro e w6 ⟨rfl, hd6⟩)
  go_ret
  exact ⟨rfl, hd6.only, s2, HF3.out, hd6.disk⟩
end

section
open Dk (zeros zeros_length)
open Go.ChangeShapes Go.WideShapes Go.ChangeAt Go.RowKit
def Boxed (w0 : World) (B : Nat) (p : List UInt8) (x y : Value) (W : World) : Prop :=
  W.rangeAt B 0 (byteVals p) ∧ W.cell? ⟨B + 1, 0, none⟩ = some x ∧ W.cell? ⟨B + 1, 1, none⟩ = some y ∧ B + 1 < W.heap.size ∧ Below w0.heap.size w0 W
end

section
open Dk (zeros zeros_length)
open Go.RowKit
structure LRdS (w0 : World) (x : List UInt8) (W : World) : Prop where
  page : PageAt W w0.heap.size x
  res : RowAt W (w0.heap.size + 1) (planL 0 0)
  below : Below w0.heap.size w0 W
theorem LRdS.call {w0 : World} {x : List UInt8} {W W' : World} (k : LRdS w0 x W) (hb : Below W.heap.size W W') : LRdS w0 x W' :=
  ⟨k.page.step hb, k.res.step hb, k.below.trans (hb.mono k.below.size)⟩
theorem LRdS.drew {w0 : World} {x : List UInt8} {W : World} (k : LRdS w0 x W) : LRdS w0 x W.drew := ⟨k.page.drew, k.res.drew, k.below.drew⟩
def RfS (w0 : World) (x : List UInt8) (p i : Int) : Option (Nat × Bool) → World → Prop
  | none, W => LRdS w0 x W
  | some (g, b), W => LRdS w0 x W ∧ w0.heap.size + 1 < g ∧ RowAt W g (if b then planL p i else planL 0 0)
theorem RfS.base {w0 : World} {x : List UInt8} {p i : Int} {s : Option (Nat × Bool)} {W : World} (k : RfS w0 x p i s W) : LRdS w0 x W := by
  cases s with
  | none => exact k
  | some gb => exact k.1
theorem RfS.call {w0 : World} {x : List UInt8} {p i : Int} {s : Option (Nat × Bool)} {W W' : World} (k : RfS w0 x p i s W) (hb : Below W.heap.size W W') : RfS w0 x p i s W' := by
  cases s with
  | none => exact LRdS.call k hb
  | some gb =>
    obtain ⟨g, b⟩ := gb
    obtain ⟨h1, h2, h3⟩ := k
    refine ⟨h1.call hb, h2, ?_⟩
    cases b <;> exact RowAt.step h3 hb
theorem read_box (w : World) (x : List UInt8) (hx : x.length = 64) : LRdS w x ((w.alloc (.cells (byteVals x).toArray 68)).alloc (.cells #[.int .i64 0, .int .i64 0] 63)) := by
  have h0 := (pageAt_new w x 68 hx).alloc (.cells #[.int .i64 0, .int .i64 0] 63)
  have h1 := rowAt_new (w.alloc (.cells (byteVals x).toArray 68)) (planL 0 0) 63
  rw [World.size_alloc] at h1
  exact ⟨h0, h1, ((Below.refl _ _).alloc (Nat.le_refl _) _).alloc (by simp) _⟩
theorem LRdS.alloc {w0 : World} {x : List UInt8} {p i : Int} {W : World} (k : LRdS w0 x W) : RfS w0 x p i (some (W.heap.size, false)) (W.alloc (.cells #[.int .i64 0, .int .i64 0] 63)) :=
  ⟨⟨k.page.alloc _, k.res.alloc _, k.below.alloc k.below.size _⟩, RowAt.lt k.res, rowAt_new W (planL 0 0) _⟩
theorem RfS.put {w0 : World} {x : List UInt8} {p i : Int} {g : Nat} {W : World} (k : RfS w0 x p i (some (g, false)) W) : RfS w0 x p i (some (g, true)) (W.setCells g 0 (planL p i)) := by
  obtain ⟨h1, h2, h3⟩ := k
  exact ⟨⟨h1.page.put_other _ _ _ (by omega), h1.res.put_other _ _ _ (by omega), below_setCells _ (by omega) _ _ _ h1.below⟩, h2, RowAt.put h3 _ rfl⟩
theorem LRdS.back {w0 : World} {x : List UInt8} {W : World} (k : LRdS w0 x W) (p i : Int) : RowAt (W.setCells (w0.heap.size + 1) 0 (planL p i)) (w0.heap.size + 1) (planL p i) ∧ Below w0.heap.size w0 (W.setCells (w0.heap.size + 1) 0 (planL p i)) :=
  ⟨k.res.put _ rfl, below_setCells _ (by omega) _ _ _ k.below⟩
theorem lread_any (x : List UInt8) (w : World) (hx : x.length = 64) :
    Calls Tryz.prog 103 #[pageV x] w fun e w' => e = .returned (if Pl.readB x = true then .tuple #[planV (Pg.getN x 4 2) (Pg.getN x 6 2), .int .i64 0] else .tuple #[planV 0 0, .int .i64 22]) ∧ Below w.heap.size w w' := by
  have G4 := Lib.hid (fun (w : World) => get_any x 4 2 w hx (by omega) (by omega))
  have G6 := Lib.hid (fun (w : World) => get_any x 6 2 w hx (by omega) (by omega))
  have HR : Hid (Pl.readB x = (Pl.rightB (Pg.getN x 4 2) (Pg.getN x 6 2) && decide (Pl.superP (Pg.getN x 4 2) (Pg.getN x 6 2) = x))) := Lib.hid rfl
  have HS := Lib.hid (read_box w x hx)
  generalize Pl.readB x = r at HR ⊢
  generalize Pg.getN x 4 2 = p at *
  generalize Pg.getN x 6 2 = i at *
  unfold pageV
  go_enter Tryz.func103, Tryz.ntmps103
  go_wp2_with fail
  rw [pageV_def]
  refine wp_region_lin (RfS w x p i) (fun i => i == 5 || i == 6) (fun n => [pageV x, .int .i64 p, pageV x, .int .i64 i, planV p i].getD n undef) (none) (by kernel_rfl) (by kernel_rfl) (LRdS.drew HS.out) ?_
  refine lin_step (i := 0) (d := some 7) (v := pageV x) rfl rfl (by kernel_rfl) (by kernel_rfl) rfl rfl (ord_page (by kernel_rfl) (.tmp 1) rfl rfl (fun _ _ hS => (RfS.base hS).page)) ?_
  (try simp only [Act.put, puA, puB, puC])
  refine lin_step (i := 1) (d := some 8) (v := .int .i64 p) rfl rfl (by kernel_rfl) (by kernel_rfl) rfl rfl (ord_call (f := 135) (args := #[pageV x, .int .i64 4, .int .i64 2]) (by kernel_rfl) ?_ (fun _ _ hS => (G4.out _).mono fun _ _ ⟨he, hb⟩ => ⟨he, RfS.call hS hb⟩)) ?_
  · intro _; go_simp
  (try simp only [Act.put, puA, puB, puC])
  refine lin_step (i := 2) (d := some 9) (v := pageV x) rfl rfl (by kernel_rfl) (by kernel_rfl) rfl rfl (ord_page (by kernel_rfl) (.tmp 1) rfl rfl (fun _ _ hS => (RfS.base hS).page)) ?_
  (try simp only [Act.put, puA, puB, puC])
  refine lin_step (i := 3) (d := some 10) (v := .int .i64 i) rfl rfl (by kernel_rfl) (by kernel_rfl) rfl rfl (ord_call (f := 135) (args := #[pageV x, .int .i64 6, .int .i64 2]) (by kernel_rfl) ?_ (fun _ _ hS => (G6.out _).mono fun _ _ ⟨he, hb⟩ => ⟨he, RfS.call hS hb⟩)) ?_
  · intro _; go_simp
  (try simp only [Act.put, puA, puB, puC])
  refine lin_step (i := 4) (d := some 11) (v := planV p i) rfl rfl (by kernel_rfl) (by kernel_rfl) rfl rfl (ord_value (by kernel_rfl) ?_) ?_
  · intro _ _ _; go_simp; rfl
  (try simp only [Act.put, puA, puB, puC])
  refine lin_turn (i := 5) (d := some 4) (fun u s => ∃ g, w.heap.size + 1 < g ∧ u = .pointer (some ⟨g, 0, none⟩) ∧ s = some (g, false)) rfl rfl (by kernel_rfl) (by kernel_rfl) rfl (by kernel_rfl) (⟨_, _, w.heap.size + 2, by omega, rfl, rfl⟩) (by kernel_rfl) (fun W hS => gives_to (v := .pointer (some ⟨W.heap.size, 0, none⟩)) (w' := W.alloc (.cells #[.int .i64 0, .int .i64 0] 63)) (by go_simp) ⟨some (W.heap.size, false), ⟨W.heap.size, RowAt.lt (LRdS.res hS), rfl, rfl⟩, LRdS.alloc hS⟩) ?_
  rintro _ _ ⟨g, hg, rfl, rfl⟩
  (try simp only [Act.put, puA, puB, puC])
  refine lin_turn (i := 6) (d := none) (fun u s => u = undef ∧ s = some (g, true)) rfl rfl (by kernel_rfl) (by kernel_rfl) rfl (by kernel_rfl) (⟨_, _, rfl, rfl⟩) (by kernel_rfl) (fun W hS => gives_store_row planT (us := planL 0 0) (vs := planL p i) hS.2.2 rfl rfl (planL_one p i) (.tmp 4) (.tmp 11) rfl rfl rfl ⟨some (g, true), ⟨rfl, rfl⟩, RfS.put hS⟩) ?_
  rintro _ _ ⟨rfl, rfl⟩
  (try simp only [Act.put, puA, puB, puC])
  refine lin_done (by kernel_rfl) ?_
  intro W2 hS
  have S2 : Hid (LRdS w x W2) := Lib.hid hS.1
  have H2 : Hid (RowAt W2 g (planL p i)) := Lib.hid hS.2.2
  clear hS G4 G6 HS
  have HQ : Hid (pageV x = .agg (byteVals x).toArray) := Lib.hid rfl
  cases hr : Pl.rightB p i with
  | false =>
    have hr0 : r = false := by have := HR.out; rw [hr] at this; simpa using this
    subst hr0
    have HN := Lib.hid (fun w => super_no p i w hr)
    have LZ := Lib.hid zeros_length
    clear HR hr HQ
    generalize zeros = z at HN LZ
    go_wp2_with (first
      | (with_reducible refine wpList_load_rw planT H2.out rfl rfl (.tmp 4) rfl rfl ?_)
      | (go_at_call 73; refine (HN.out _).mono ?_; rintro e w3 ⟨rfl, hb3⟩; have S3 := Lib.hid (S2.out.call hb3); clear S2 H2 HN hb3)
      | ((with_reducible refine wpList_store_new rfl (.tmp 5) (.tmp 15) rfl rfl ?_ ?_ LZ.out ?_); (exact rfl); (exact rfl); intro W4 hP hb4 hz4; have S4 := Lib.hid (S3.out.call hb4); clear S3 hP hb4 hz4)
      | ((with_reducible refine wpList_store_rw planT (vs := planL 0 0) S4.out.res rfl rfl (planL_one 0 0) rfl (.tmp 2) (.tmp 24) rfl rfl ?_ ?_); (exact rfl)))
    have hq := S4.out.back 0 0
    exact bodyPost_ret (results_row2 planT _ 2 3 rfl _ hq.1 rfl rfl rfl) rfl ⟨rfl, hq.2⟩
  | true =>
    have HN := Lib.hid (fun w => super_yes p i w hr)
    have LZ := Lib.hid (Pl.super_length p i)
    by_cases hx2 : Pl.superP p i = x
    · have hr0 : r = true := by have := HR.out; rw [hr, hx2] at this; simpa using this
      subst hr0
      rw [hx2] at HN LZ
      have E1 := fun (a b : Operand) (w : World) => run_neGuard_page w a b x x
      have E2 := fun (w : World) => run_neq_same w x hx
      clear HR hr HQ hx2
      go_wp2_with (first
        | (with_reducible refine wpList_load_rw planT H2.out rfl rfl (.tmp 4) rfl rfl ?_)
        | (go_at_call 73; refine (HN.out _).mono ?_; rintro e w3 ⟨rfl, hb3⟩; have S3 := Lib.hid (S2.out.call hb3); have H3 := Lib.hid (RowAt.step H2.out hb3); clear S2 H2 HN hb3)
        | ((with_reducible refine wpList_store_new rfl (.tmp 5) (.tmp 15) rfl rfl ?_ ?_ LZ.out ?_); (exact rfl); (exact rfl); intro W4 hP hb4 hz4; have S4 := Lib.hid (S3.out.call hb4); have H4 := Lib.hid (RowAt.step H3.out hb4); have P4 := Lib.hid hP; clear S3 H3 hP hb4 hz4; generalize w3.heap.size = D at P4 ⊢)
        | ((with_reducible refine wpList_load_guarded P4.out (.tmp 5) rfl rfl ?_ ?_); (exact rfl))
        | ((with_reducible refine wpList_load_guarded S4.out.page (.tmp 1) rfl rfl ?_ ?_); (exact rfl))
        | (with_reducible refine wpList_load_rw planT H4.out rfl rfl (.tmp 4) rfl rfl ?_)
        | ((with_reducible refine wpList_store_rw planT (vs := planL p i) S4.out.res rfl rfl (planL_one p i) rfl (.tmp 2) (.tmp 25) rfl rfl ?_ ?_); (exact rfl)))
      have hq := S4.out.back p i
      exact bodyPost_ret (results_row2 planT _ 2 3 rfl _ hq.1 rfl rfl rfl) rfl ⟨rfl, hq.2⟩
    · have hr0 : r = false := by have := HR.out; rw [hr, decide_eq_false hx2] at this; simpa using this
      subst hr0
      have E1 := fun (a b : Operand) (w : World) => run_neGuard_page w a b (Pl.superP p i) x
      have E2 : ∀ (w : World), (binOp .neq 68 (pageV (Pl.superP p i)) (pageV x)).run Tryz.prog w = .ok (.bool true) w := fun (w : World) => by
        rw [run_neq_page w (Pl.superP p i) x (Pl.super_length p i) hx, decide_eq_false hx2]; rfl
      clear HR hr HQ hx2
      generalize Pl.superP p i = z at HN LZ E1 E2
      go_wp2_with (first
        | (with_reducible refine wpList_load_rw planT H2.out rfl rfl (.tmp 4) rfl rfl ?_)
        | (go_at_call 73; refine (HN.out _).mono ?_; rintro e w3 ⟨rfl, hb3⟩; have S3 := Lib.hid (S2.out.call hb3); clear S2 H2 HN hb3)
        | ((with_reducible refine wpList_store_new rfl (.tmp 5) (.tmp 15) rfl rfl ?_ ?_ LZ.out ?_); (exact rfl); (exact rfl); intro W4 hP hb4 hz4; have S4 := Lib.hid (S3.out.call hb4); have P4 := Lib.hid hP; clear S3 hP hb4 hz4; generalize w3.heap.size = D at P4 ⊢)
        | ((with_reducible refine wpList_load_guarded P4.out (.tmp 5) rfl rfl ?_ ?_); (exact rfl))
        | ((with_reducible refine wpList_load_guarded S4.out.page (.tmp 1) rfl rfl ?_ ?_); (exact rfl))
        | ((with_reducible refine wpList_store_rw planT (vs := planL 0 0) S4.out.res rfl rfl (planL_one 0 0) rfl (.tmp 2) (.tmp 24) rfl rfl ?_ ?_); (exact rfl)))
      have hq := S4.out.back 0 0
      exact bodyPost_ret (results_row2 planT _ 2 3 rfl _ hq.1 rfl rfl rfl) rfl ⟨rfl, hq.2⟩
end

section
open Go.RowKit Go.Maps
open Dk (zeros zeros_length)
open Ii (Ino)
open Jn (Chg Cl)
theorem planOf_yes {w : World} {d l m : Nat} {s : Dk.St} {n I : Int} (h : DiskAt w d l m s) (hc : Cl s) (hn : (s.last.length : Int) = n) (hp : s.last.getD 0 [] = Pl.superP n I) (hpl : Pl.rightB n I = true) : Calls Tryz.prog 61 #[.pointer (some ⟨d, 0, none⟩)] w fun e w' => e = .returned (.tuple #[planV n I, .int .i64 0]) ∧ Below w.heap.size w w' := by
  obtain ⟨h1, h2, h3, h4⟩ := Pl.right_yes hpl
  have hd := Pl.data_bd h1 h2
  obtain ⟨q1, q2, q3⟩ := Pl.read_super n I hpl
  have HRD : Hid (∀ W, Below w.heap.size w W → Calls Tryz.prog 102 #[.pointer (some ⟨d, 0, none⟩), .int .i64 0] W fun e w' => e = .returned (.tuple #[pageV (Pl.superP n I), .int .i64 0]) ∧ Below W.heap.size W w') := Lib.hid (fun W hb => by
    have := read_any (h.below hb) 0
    have e1 : Dk.reachE s 0 = 0 := Dk.reach_mk hc.up (Dk.has_mk (k := 0) (by omega))
    have e2 : Dk.readP s ((0 : Nat) : Int) = s.last.getD 0 [] := read_clean hc (by omega)
    have e3 : Dk.readP s 0 = Pl.superP n I := e2.trans hp
    rw [e1, e3] at this
    exact this)
  have HPR : Hid (∀ W, Calls Tryz.prog 103 #[pageV (Pl.superP n I)] W fun e w' => e = .returned (.tuple #[.agg #[.int .i64 n, .int .i64 I], .int .i64 0]) ∧ Below W.heap.size W w') := Lib.hid (fun W => by
    have := lread_any (Pl.superP n I) W (Pl.super_length _ _)
    rw [q1, if_pos rfl, q2, q3] at this
    exact this)
  have HPG : Hid (∀ W, Below w.heap.size w W → Calls Tryz.prog 72 #[.pointer (some ⟨d, 0, none⟩)] W fun e w' => e = .returned (.int .i64 n) ∧ W = w') := Lib.hid (fun W hb => by
    have := pages_any (h.below hb)
    rw [hn] at this
    exact this)
  have HSL : Hid ((Pl.superP n I).length = 64) := Lib.hid (Pl.super_length _ _)
  have S := Lib.hid ((Lo.start (L := []) w (by simp)).alloc _ rfl [.int .i64 0, .int .i64 0] 63)
  clear h hc hp hpl h1 h2 h3 h4 hd q1 q2 q3
  generalize Pl.superP n I = sp at HRD HPR HSL
  go_enter Tryz.func61, Tryz.ntmps61
  go_wp2_with fail
  generalize hw : World.alloc _ _ = w1
  have S1 : Hid (Lo [] w [(w.heap.size, [.int .i64 0, .int .i64 0])] w1) := Lib.hid (by rw [← hw]; exact S.out)
  clear hw S
  go_wp2_with (first
    | (go_at_call 102; (with_reducible refine (HRD.out _ S1.out.bel).mono ?_); rintro e w2 ⟨rfl, hb⟩; replace S1 := Lib.hid (S1.out.below hb); clear hb)
    | ((with_reducible refine wpList_store_new rfl (.tmp 4) (.tmp 10) rfl rfl ?_ ?_ HSL.out ?_); (exact rfl); (exact rfl); intro W2 hP hB2 hz2; have S2 := Lib.hid (S1.out.made hP.rowAt hB2 hz2); clear hP hB2 hz2 S1)
    | (with_reducible refine wpList_load_page (S2.out.page 1 rfl HSL.out) rfl (.tmp 4) rfl rfl ?_)
    | (go_at_call 103; (with_reducible refine (HPR.out _).mono ?_); rintro e w2 ⟨rfl, hb⟩; replace S2 := Lib.hid (S2.out.below hb); clear hb)
    | ((with_reducible refine wpList_store_newrow (vs := [.int .i64 n, .int .i64 I]) planT2 ?_ (planL_one2 n I) rfl (.tmp 6) (.tmp 19) rfl rfl ?_ ?_ ?_); (exact rfl); (exact rfl); (exact rfl); intro W2 hP hB2 hz2; have S3 := Lib.hid (S2.out.made hP hB2 hz2); clear hP hB2 hz2 S2))
  have c0 := (S3.out.get 2 _ rfl).cell 0 _ rfl
  go_quiet ((go_at_call 72; refine Calls.quiet_of_same ((HPG.out _ (S3.out.drewN _).bel).mono fun e w' h => ⟨h.1, h.2.symm⟩)))
  have S4 := Lib.hid (S3.out.drewN nq)
  generalize World.drewN _ _ = W5 at S4 ⊢
  go_wp2_with (first
    | (with_reducible refine wpList_load_mid rfl 63 (.tmp 6) rfl _ 0 rfl [.int .i64 n, .int .i64 I] _ (S4.out.get 2 _ rfl).range Tryz.underlying63 rfl (by kernel_rfl) ?_)
    | ((with_reducible refine wpList_store_rw (vs := [.int .i64 n, .int .i64 I]) planT2 (S4.out.get 0 _ rfl) ?_ ?_ (planL_one2 n I) rfl (.tmp 2) (.tmp 31) rfl ?_ ?_ ?_); (exact rfl); (exact rfl); (exact rfl); (exact rfl)))
  have S5 := Lib.hid (S4.out.put 0 _ rfl [.int .i64 n, .int .i64 I] rfl)
  exact bodyPost_ret (results_row2 planT2 _ 2 3 rfl _ (S5.out.get 0 _ rfl) rfl rfl rfl) rfl ⟨rfl, S5.out.bel⟩
end
end Go.Proofs.YtncmihikpcdgoaaGreat
