/-
  The contracts of journal's put and apply: writes, and a flush behind them.
-/
import Derived.Test.YtlamllnflbdcjaaJleaf
namespace Go.Proofs.Ytlamllnflbdcjaa
open Go.RowKit
open Dk (zeros zeros_length)
open Hd (Head rightB pageH)
open Jn (Chg)

/-- what stands in memory in a round -/
structure PutI (w : World) (d l m : Nat) (R : World → Prop) (r a z : Nat) (s : Dk.St) (W : World) : Prop where
  disk : DiskAt W d l m s
  row : R W
  reg : RowAt W r (regVals d a z)
  fresh : w.heap.size ≤ r
  old : d < w.heap.size ∧ l < w.heap.size ∧ m < w.heap.size
  only : Only [d, l, m] w W
def Stays (R : World → Prop) (d l m : Nat) : Prop := ∀ W W' L, (∀ x ∈ L, x ∈ [d, l, m]) → Only L W W' → R W → R W'
theorem PutI.call {w : World} {d l m : Nat} {R : World → Prop} {r a z : Nat} {s s' : Dk.St} {W W' : World} {L : List Nat} (h : PutI w d l m R r a z s W) (hR : Stays R d l m) (hd : DiskAt W' d l m s') (ho : Only L W W') (hL : ∀ x ∈ L, x ∈ [d, l, m]) : PutI w d l m R r a z s' W' where
  disk := hd
  row := hR W W' L hL ho h.row
  reg := h.reg.only ho (fun e => by have := hL _ e; have := h.old; have := h.fresh; simp at *; omega)
  fresh := h.fresh
  old := h.old
  only := h.only.trans (ho.mono hL)
theorem PutI.below {w : World} {d l m : Nat} {R : World → Prop} {r a z : Nat} {s : Dk.St} {W W' : World} (h : PutI w d l m R r a z s W) (hR : Stays R d l m) (hb : Below W.heap.size W W') : PutI w d l m R r a z s W' :=
  h.call hR (h.disk.below hb) (Only.below (l := []) hb) (by simp)
theorem PutI.far {w : World} {d l m : Nat} {R : World → Prop} {r a z : Nat} {s : Dk.St} {W : World} (h : PutI w d l m R r a z s W) (b : Nat) (hb : w.heap.size ≤ b) : b ∉ [d, l, m] := fun e => by
  have := h.old
  simp at e
  omega
theorem putI_start {w : World} {d l m : Nat} {R : World → Prop} {s : Dk.St} (a z : Nat) (h : DiskAt w d l m s) (hR : Stays R d l m) (hr : R w) (t : TypeId) : PutI w d l m R w.heap.size a z s (w.alloc (.cells (regVals d a z).toArray t)) where
  disk := h.alloc _
  row := hR w _ [] (by simp) ((Only.refl _ _).alloc _) hr
  reg := rowAt_new w _ t
  fresh := Nat.le_refl _
  old := ⟨h.dlt, h.llt, h.mlt⟩
  only := (Only.refl _ _).alloc _
theorem stays_pg (A : Option Addr) (d l m : Nat) (ps : List (List UInt8)) : Stays (fun W => PgAt W A [d, l, m] ps) d l m := fun _ _ _ hL ho h => h.only ho hL
theorem stays_ch (A : Option Addr) (d l m : Nat) (cs : List Chg) : Stays (fun W => ChAt W A [d, l, m] cs) d l m := fun _ _ _ hL ho h => h.only ho hL

theorem layAt_drop (ps : List (List UInt8)) : ∀ (a k : Nat), Jn.layAt (a + k) (ps.drop k) = (Jn.layAt a ps).drop k := by
  induction ps with
  | nil => intro a k; simp [Jn.layAt]
  | cons p r ih =>
    intro a k
    cases k with
    | zero => rfl
    | succ k =>
      show Jn.layAt (a + (k + 1)) (r.drop k) = (Jn.layAt (a + 1) r).drop k
      rw [← ih (a + 1) k, show a + 1 + k = a + (k + 1) by omega]
theorem layAt_rest (ps : List (List UInt8)) (a k : Nat) (p : List UInt8) (h : ps[k]? = some p) : Jn.layAt (a + k) (ps.drop k) = ⟨((a + k : Nat) : Int), p⟩ :: Jn.layAt (a + (k + 1)) (ps.drop (k + 1)) := by
  obtain ⟨hk, he⟩ := List.getElem?_eq_some_iff.1 h
  rw [List.drop_eq_getElem_cons hk, he]
  rfl
theorem runW_ok {s : Dk.St} {c : Chg} {r : List Chg} (h : Dk.writeE s c.no = 0) : Jn.runW s (c :: r) = Jn.runW (Dk.write s c.no c.page) r := by rw [Jn.runW, if_pos h]
theorem runW_bad {s : Dk.St} {c : Chg} {r : List Chg} (h : Dk.writeE s c.no ≠ 0) : Jn.runW s (c :: r) = (Dk.write s c.no c.page, Dk.writeE s c.no) := by rw [Jn.runW, if_neg h]

set_option maxRecDepth 100000 in
set_option maxHeartbeats 2000000 in
theorem put_any {w : World} {d l m : Nat} {s : Dk.St} (h : DiskAt w d l m s) (g a z : Nat) (A : Option Addr) (c : Nat) (ps : List (List UInt8)) (hrow : PgAt w A [d, l, m] ps) (hp : ∀ p ∈ ps, p.length = 64) (hl : ps.length ≤ 1000) (ha : a ≤ 1000) :
    Calls Try.prog 30 #[regV d g z, .int .i64 (a : Int), .slice A ps.length c] w fun e w' => e = .returned (.int .i64 (Jn.runW s (Jn.layAt a ps)).2) ∧ DiskAt w' d l m (Jn.runW s (Jn.layAt a ps)).1 ∧ Only [d, l, m] w w' := by
  have HS := Lib.hid (putI_start g z h (stays_pg A d l m ps) hrow 61)
  have HP := Lib.hid hp
  have HST := Lib.hid (stays_pg A d l m ps)
  clear h hrow hp
  obtain ⟨n, hn⟩ : ∃ n, ps.length = n := ⟨_, rfl⟩
  have HN := Lib.hid hn
  rw [hn] at hl ⊢
  clear hn
  unfold regV
  go_enter Try.func30, Try.ntmps30
  go_wp2_with fail
  unfold regVals at HS
  generalize (w.alloc (.cells _ 61)) = w1 at HS ⊢
  generalize hrb : w.heap.size = rb at HS ⊢
  go_loopw [12] (fun i wr => ∃ (k : Nat) (sk : Dk.St), k ≤ n ∧ i = .int .i64 k ∧ PutI w d l m (fun W => PgAt W A [d, l, m] ps) rb g z sk wr ∧ Jn.runW s (Jn.layAt a ps) = Jn.runW sk (Jn.layAt (a + k) (ps.drop k))) (fun i _ => n - (intOf i).toNat)
  case atStart => exact ⟨0, s, Nat.zero_le _, rfl, HS.out, rfl⟩
  case round =>
    obtain ⟨k, sk, hk, rfl, hput, hrun⟩ := hrel
    have HI := Lib.hid hput
    have HR := Lib.hid hrun
    clear hput hrun HS
    by_cases hlt : k < n
    · obtain ⟨p, hpk⟩ : ∃ p, ps[k]? = some p := ⟨_, List.getElem?_eq_getElem (by rw [HN.out]; exact hlt)⟩
      obtain ⟨b, off, rfl, hb, _, hc⟩ := HI.out.row (by rw [HN.out]; omega)
      have HC := Lib.hid (hc k p hpk)
      have HPL := Lib.hid (HP.out p (List.mem_of_getElem? hpk))
      have HE := Lib.hid (layAt_rest ps a k p hpk)
      clear hb hc hpk
      have HX : Hid ((a : Int) + (k : Int) = ((a + k : Nat) : Int)) := Lib.hid (by omega)
      have hF : Hid (wr.heap.size ∉ [d, l, m]) := Lib.hid (HI.out.far _ (HI.out.only.size))
      go_wp2_with (first
        | ((with_reducible refine wpList_load_at HC.out HPL.out rfl (.tmp 15) rfl ?_ ?_); (exact rfl))
        | ((with_reducible refine wpList_store_new rfl (.tmp 8) (.tmp 16) rfl rfl ?_ ?_ HPL.out ?_); (exact rfl); (exact rfl); intro W2 hP hB2 hz2; have HI2 := Lib.hid (HI.out.below HST.out hB2); have HP2 := Lib.hid hP; have hr0 := HI2.out.reg.cell 0 _ rfl; clear HI hP hB2 hz2; generalize wr.heap.size = B at HP2 hF ⊢)
        | (with_reducible refine wpList_load_page HP2.out rfl (.tmp 8) rfl rfl ?_))
      rw [HX.out]
      refine (write_any HI2.out.disk _ p HPL.out).mono ?_
      rintro e W3 ⟨rfl, hd3, ho3⟩
      have HI3 := Lib.hid (HI2.out.call HST.out hd3 ho3 (by simp))
      clear HI2 HP2 hr0 hd3 ho3
      by_cases hw : Dk.writeE sk ((a + k : Nat) : Int) = 0
      · have HRW : Hid (Jn.runW s (Jn.layAt a ps) = Jn.runW (Dk.write sk ((a + k : Nat) : Int) p) (Jn.layAt (a + (k + 1)) (ps.drop (k + 1)))) := Lib.hid (by rw [HR.out, HE.out, runW_ok hw])
        rw [hw]
        go_wp2
        go_roundw
        case rel => exact ⟨k + 1, _, by omega, by go_num, HI3.out, HRW.out⟩
        case measure => simp [intOf]; omega
      · have HRW : Hid (Jn.runW s (Jn.layAt a ps) = (Dk.write sk ((a + k : Nat) : Int) p, Dk.writeE sk ((a + k : Nat) : Int))) := Lib.hid (by rw [HR.out, HE.out, runW_bad hw])
        have hne2 : (Dk.writeE sk ((a + k : Nat) : Int) == 0) = false := by simpa using hw
        have hne3 : (Dk.writeE sk ((a + k : Nat) : Int) != 0) = true := by simpa using hw
        generalize Dk.writeE sk ((a + k : Nat) : Int) = E at hne2 hne3 HRW ⊢
        clear hw
        go_wp2
        go_ret
        rw [HRW.out]
        exact ⟨rfl, HI3.out.disk, HI3.out.only⟩
    · obtain rfl : k = n := by omega
      have HRW : Hid (Jn.runW s (Jn.layAt a ps) = (Dk.flush sk, Dk.flushE sk)) := Lib.hid (by rw [HR.out, List.drop_of_length_le (by rw [HN.out]; omega)]; rfl)
      have hr0 := HI.out.reg.cell 0 _ rfl
      go_wp2_with fail
      refine (flush_any HI.out.disk).mono ?_
      rintro e W3 ⟨rfl, hd3, ho3⟩
      have HI3 := Lib.hid (HI.out.call HST.out hd3 ho3 (by simp))
      clear HI hr0 hd3 ho3
      go_wp2
      go_ret
      rw [HRW.out]
      exact ⟨rfl, HI3.out.disk, HI3.out.only⟩

theorem drop_rest (cs : List Chg) (k : Nat) (c : Chg) (h : cs[k]? = some c) : cs.drop k = c :: cs.drop (k + 1) := by
  obtain ⟨hk, he⟩ := List.getElem?_eq_some_iff.1 h
  rw [List.drop_eq_getElem_cons hk, he]
set_option maxRecDepth 100000 in
set_option maxHeartbeats 2000000 in
theorem apply_any {w : World} {d l m : Nat} {s : Dk.St} (h : DiskAt w d l m s) (g z : Nat) (A : Option Addr) (c : Nat) (cs : List Chg) (hrow : ChAt w A [d, l, m] cs) (hp : ∀ x ∈ cs, x.page.length = 64) (hl : cs.length ≤ 1000) :
    Calls Try.prog 27 #[regV d g z, .slice A cs.length c] w fun e w' => e = .returned (.int .i64 (Jn.runW s cs).2) ∧ DiskAt w' d l m (Jn.runW s cs).1 ∧ Only [d, l, m] w w' := by
  have HS := Lib.hid (putI_start g z h (stays_ch A d l m cs) hrow 61)
  have HP := Lib.hid hp
  have HST := Lib.hid (stays_ch A d l m cs)
  clear h hrow hp
  obtain ⟨n, hn⟩ : ∃ n, cs.length = n := ⟨_, rfl⟩
  have HN := Lib.hid hn
  rw [hn] at hl ⊢
  clear hn
  unfold regV
  go_enter Try.func27, Try.ntmps27
  go_wp2_with fail
  unfold regVals at HS
  generalize (w.alloc (.cells _ 61)) = w1 at HS ⊢
  generalize hrb : w.heap.size = rb at HS ⊢
  go_loopw [10] (fun i wr => ∃ (k : Nat) (sk : Dk.St), k ≤ n ∧ i = .int .i64 k ∧ PutI w d l m (fun W => ChAt W A [d, l, m] cs) rb g z sk wr ∧ Jn.runW s cs = Jn.runW sk (cs.drop k)) (fun i _ => n - (intOf i).toNat)
  case atStart => exact ⟨0, s, Nat.zero_le _, rfl, HS.out, rfl⟩
  case round =>
    obtain ⟨k, sk, hk, rfl, hput, hrun⟩ := hrel
    have HI := Lib.hid hput
    have HR := Lib.hid hrun
    clear hput hrun HS
    by_cases hlt : k < n
    · obtain ⟨x, hpk⟩ : ∃ x, cs[k]? = some x := ⟨_, List.getElem?_eq_getElem (by rw [HN.out]; exact hlt)⟩
      obtain ⟨b, off, rfl, hb, _, hc⟩ := HI.out.row (by rw [HN.out]; omega)
      have HC := Lib.hid (hc k x hpk)
      have HPL := Lib.hid (HP.out x (List.mem_of_getElem? hpk))
      have HE := Lib.hid (drop_rest cs k x hpk)
      clear hb hc hpk
      have hF : Hid (wr.heap.size ∉ [d, l, m]) := Lib.hid (HI.out.far _ (HI.out.only.size))
      have hzc := zeroChg
      go_wp2_with (first
        | ((with_reducible refine wpList_load_chg HC.out HPL.out rfl (.tmp 12) rfl ?_ ?_); (exact rfl))
        | ((with_reducible refine wpList_store_newchg HPL.out rfl (.tmp 6) (.tmp 13) rfl rfl ?_ chgZero_size ?_); (exact rfl); intro W2 hP hB2 hz2; have HI2 := Lib.hid (HI.out.below HST.out hB2); have HP2 := Lib.hid hP; have hr0 := HI2.out.reg.cell 0 _ rfl; have hv0 := ChVar.no hP; have HV1 := Lib.hid (ChVar.page hP); clear HI hP hB2 hz2; generalize wr.heap.size = B at HP2 hF hv0 HV1 ⊢)
        | ((with_reducible refine wpList_load_at HV1.out HPL.out rfl (.tmp 18) rfl ?_ ?_); (exact rfl)))
      refine (write_any HI2.out.disk _ x.page HPL.out).mono ?_
      rintro e W3 ⟨rfl, hd3, ho3⟩
      have HI3 := Lib.hid (HI2.out.call HST.out hd3 ho3 (by simp))
      clear HI2 HP2 hr0 hd3 ho3 hv0 HV1
      by_cases hw : Dk.writeE sk x.no = 0
      · have HRW : Hid (Jn.runW s cs = Jn.runW (Dk.write sk x.no x.page) (cs.drop (k + 1))) := Lib.hid (by rw [HR.out, HE.out, runW_ok hw])
        rw [hw]
        go_wp2
        go_roundw
        case rel => exact ⟨k + 1, _, by omega, by go_num, HI3.out, HRW.out⟩
        case measure => simp [intOf]; omega
      · have HRW : Hid (Jn.runW s cs = (Dk.write sk x.no x.page, Dk.writeE sk x.no)) := Lib.hid (by rw [HR.out, HE.out, runW_bad hw])
        have hne2 : (Dk.writeE sk x.no == 0) = false := by simpa using hw
        have hne3 : (Dk.writeE sk x.no != 0) = true := by simpa using hw
        generalize Dk.writeE sk x.no = E at hne2 hne3 HRW ⊢
        clear hw
        go_wp2
        go_ret
        rw [HRW.out]
        exact ⟨rfl, HI3.out.disk, HI3.out.only⟩
    · obtain rfl : k = n := by omega
      have HRW : Hid (Jn.runW s cs = (Dk.flush sk, Dk.flushE sk)) := Lib.hid (by rw [HR.out, List.drop_of_length_le (by rw [HN.out]; omega)]; rfl)
      have hr0 := HI.out.reg.cell 0 _ rfl
      go_wp2_with fail
      refine (flush_any HI.out.disk).mono ?_
      rintro e W3 ⟨rfl, hd3, ho3⟩
      have HI3 := Lib.hid (HI.out.call HST.out hd3 ho3 (by simp))
      clear HI hr0 hd3 ho3
      go_wp2
      go_ret
      rw [HRW.out]
      exact ⟨rfl, HI3.out.disk, HI3.out.only⟩
end Go.Proofs.Ytlamllnflbdcjaa
