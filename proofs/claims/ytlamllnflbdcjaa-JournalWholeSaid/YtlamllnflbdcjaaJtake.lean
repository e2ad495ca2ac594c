/-
  The contract of journal's takes: whether changes are of other pages than the region's, each once.
-/
import Derived.Test.YtlamllnflbdcjaaJput
namespace Go.Proofs.Ytlamllnflbdcjaa
open Go.RowKit
open Dk (zeros zeros_length)
open Hd (Head rightB pageH)
open Jn (Chg)

/-- a row of marks -/
structure MarkAt (w : World) (b : Nat) (f : Nat → Bool) : Prop where
  cell : ∀ i, i < 512 → w.cell? ⟨b, i, none⟩ = some (.bool (f i))
  free : ∀ i, i < 512 → w.frozen? ⟨b, i, none⟩ = false
def mark (f : Nat → Bool) (j : Nat) : Nat → Bool := fun i => i == j || f i
theorem MarkAt.block {w w' : World} {b : Nat} {f : Nat → Bool} (h : MarkAt w b f) (hb : w'.heap[b]? = w.heap[b]?) : MarkAt w' b f :=
  ⟨fun i hi => (World.cell?_of_block (w := w) (a := ⟨b, i, none⟩) hb).trans (h.cell i hi), fun i hi => (World.frozen?_of_block (w := w) (a := ⟨b, i, none⟩) hb).trans (h.free i hi)⟩
theorem MarkAt.lt {w : World} {b : Nat} {f : Nat → Bool} (h : MarkAt w b f) : b < w.heap.size := World.block_lt_of_cell? w _ (h.cell 0 (by omega))
theorem MarkAt.below {w w' : World} {b : Nat} {f : Nat → Bool} (h : MarkAt w b f) (hb : Below w.heap.size w w') : MarkAt w' b f := h.block (hb.block b h.lt)
theorem MarkAt.set {w : World} {b : Nat} {f : Nat → Bool} (h : MarkAt w b f) (j : Nat) (hj : j < 512) : MarkAt (w.setCell ⟨b, j, none⟩ (.bool true)) b (mark f j) where
  cell := fun i hi => by
    by_cases e : j = i
    · subst e
      rw [World.cell?_setCell_same' _ _ _ (by rw [h.cell j hj]; rfl)]
      simp [mark]
    · rw [World.cell?_setCell_other _ _ _ _ (fun q => e (by injection q)), h.cell i hi]
      have : (i == j) = false := by simpa using fun q => e q.symm
      simp [mark, this]
  free := fun i hi => by rw [World.frozen?_setCell]; exact h.free i hi
def noMarks : Array Value := (List.replicate 512 (Value.bool false)).toArray
theorem noMarks_zero (w : World) : (zeroValue 80).run Try.prog w = .ok (.agg noMarks) w := by kernel_rfl
theorem markAt_new (w : World) (t : TypeId) : MarkAt (w.alloc (.cells noMarks t)) w.heap.size (fun _ => false) where
  cell := fun i hi => by
    rw [World.cell?_alloc_mark]
    unfold noMarks
    rw [List.getElem?_toArray, List.getElem?_replicate, if_pos hi]
  free := fun i hi => by
    rw [World.frozen?_alloc_mark]
    simp

def takesFrom (n a z : Nat) : (Nat → Bool) → List Chg → Bool
  | _, [] => true
  | f, c :: r => if otherB n a z c.no = true ∧ f c.no.toNat = false then takesFrom n a z (mark f c.no.toNat) r else false
def takesB (n a z : Nat) (cs : List Chg) : Bool := takesFrom n a z (fun _ => false) cs

structure TakI (w : World) (d l m : Nat) (s : Dk.St) (A : Option Addr) (cs : List Chg) (r a z t : Nat) (f : Nat → Bool) (W : World) : Prop where
  disk : DiskAt W d l m s
  row : ChAt W A [] cs
  reg : RowAt W r (regVals d a z)
  marks : MarkAt W t f
  fresh : w.heap.size ≤ t
  apart : t ≠ r
  old : d < w.heap.size ∧ l < w.heap.size ∧ m < w.heap.size
  rowold : ∀ b off, 0 < cs.length → A = some ⟨b, off, none⟩ → b < w.heap.size
  below : Below w.heap.size w W
theorem TakI.call {w : World} {d l m : Nat} {s : Dk.St} {A : Option Addr} {cs : List Chg} {r a z t : Nat} {f : Nat → Bool} {W W' : World} (h : TakI w d l m s A cs r a z t f W) (hb : Below W.heap.size W W') : TakI w d l m s A cs r a z t f W' :=
  ⟨h.disk.below hb, h.row.below hb, h.reg.below hb h.reg.lt, h.marks.below hb, h.fresh, h.apart, h.old, h.rowold, h.below.trans (hb.mono h.below.size)⟩
theorem TakI.set {w : World} {d l m : Nat} {s : Dk.St} {A : Option Addr} {cs : List Chg} {r a z t : Nat} {f : Nat → Bool} {W : World} (h : TakI w d l m s A cs r a z t f W) (j : Nat) (hj : j < 512) : TakI w d l m s A cs r a z t (mark f j) (W.setCell ⟨t, j, none⟩ (.bool true)) := by
  have ho : Only [t] W (W.setCell ⟨t, j, none⟩ (.bool true)) := (Only.refl _ _).setCell (by simp) _
  have hf := h.fresh
  have hold := h.old
  exact { disk := h.disk.only ho (by simp; omega) (by simp; omega) (by simp; omega)
          row := fun h0 => by
            obtain ⟨b, off, e, h1, h2, h3⟩ := h.row h0
            have := h.rowold b off h0 e
            exact ⟨b, off, e, by have := ho.size; omega, h2, fun i x hx k v hv => (ho.cell (p := ⟨b, off + i * 65 + k, none⟩) h1 (by simp; omega)).trans (h3 i x hx k v hv)⟩
          reg := h.reg.only ho (by simp; exact Ne.symm h.apart)
          marks := h.marks.set j hj
          fresh := h.fresh, apart := h.apart, old := h.old, rowold := h.rowold
          below := h.below.setCell (by exact h.fresh) _ }
theorem takI_start {w : World} {d l m : Nat} {s : Dk.St} {A : Option Addr} {cs : List Chg} (a z : Nat) (h : DiskAt w d l m s) (hrow : ChAt w A [] cs) (t1 t2 : TypeId) :
    TakI w d l m s A cs w.heap.size a z (w.heap.size + 1) (fun _ => false) ((w.alloc (.cells (regVals d a z).toArray t1)).alloc (.cells noMarks t2)) where
  disk := (h.alloc _).alloc _
  row := (hrow.below ((Below.refl _ _).alloc (Nat.le_refl _) _)).below ((Below.refl _ _).alloc (Nat.le_refl _) _)
  reg := (rowAt_new w _ t1).alloc _
  marks := by simpa using markAt_new (w.alloc (.cells (regVals d a z).toArray t1)) t2
  fresh := by omega
  apart := by omega
  old := ⟨h.dlt, h.llt, h.mlt⟩
  rowold := fun b off h0 e => by
    obtain ⟨b', off', e', h1, _⟩ := hrow h0
    rw [e] at e'
    injection e' with e'
    injection e' with e1
    omega
  below := ((Below.refl _ _).alloc (Nat.le_refl _) _).alloc (by simp) _

theorem takes_ok {n a z : Nat} {f : Nat → Bool} {c : Chg} {r : List Chg} (h1 : otherB n a z c.no = true) (h2 : f c.no.toNat = false) : takesFrom n a z f (c :: r) = takesFrom n a z (mark f c.no.toNat) r := by rw [takesFrom, if_pos ⟨h1, h2⟩]
theorem takes_bad {n a z : Nat} {f : Nat → Bool} {c : Chg} {r : List Chg} (h : ¬ (otherB n a z c.no = true ∧ f c.no.toNat = false)) : takesFrom n a z f (c :: r) = false := by rw [takesFrom, if_neg h]

set_option maxRecDepth 100000 in
set_option maxHeartbeats 2000000 in
theorem takes_any {w : World} {d l m : Nat} {s : Dk.St} (h : DiskAt w d l m s) (a z : Nat) (ha : a ≤ 1000) (hz : z ≤ 1000) (A : Option Addr) (c : Nat) (cs : List Chg) (hrow : ChAt w A [] cs) (hp : ∀ x ∈ cs, x.page.length = 64) (hl : cs.length ≤ 1000) :
    Calls Try.prog 19 #[regV d a z, .slice A cs.length c] w fun e w' => e = .returned (.bool (takesB s.last.length a z cs)) ∧ Below w.heap.size w w' := by
  have HS := Lib.hid (takI_start a z h hrow 61 80)
  have HP := Lib.hid hp
  have hsm := h.ok.small
  clear h hrow hp
  obtain ⟨n, hn⟩ : ∃ n, cs.length = n := ⟨_, rfl⟩
  have HN := Lib.hid hn
  rw [hn] at hl ⊢
  clear hn
  unfold regV
  have hz80 := noMarks_zero
  go_enter Try.func19, Try.ntmps19
  go_wp2_with fail
  unfold regVals at HS
  generalize ((w.alloc (.cells _ 61)).alloc (.cells noMarks 80)) = w1 at HS ⊢
  generalize hrb : w.heap.size = rb at HS ⊢
  go_loopw [10] (fun i wr => ∃ (k : Nat) (f : Nat → Bool), k ≤ n ∧ i = .int .i64 k ∧ TakI w d l m s A cs rb a z (rb + 1) f wr ∧ takesB s.last.length a z cs = takesFrom s.last.length a z f (cs.drop k)) (fun i _ => n - (intOf i).toNat)
  case atStart => exact ⟨0, _, Nat.zero_le _, rfl, HS.out, rfl⟩
  case round =>
    obtain ⟨k, f, hk, rfl, hput, hrun⟩ := hrel
    have HI := Lib.hid hput
    have HR := Lib.hid hrun
    clear hput hrun HS
    by_cases hlt : k < n
    · obtain ⟨x, hpk⟩ : ∃ x, cs[k]? = some x := ⟨_, List.getElem?_eq_getElem (by rw [HN.out]; exact hlt)⟩
      obtain ⟨b, off, rfl, hb, _, hc⟩ := HI.out.row (by rw [HN.out]; omega)
      have HC := Lib.hid (hc k x hpk)
      have HPL := Lib.hid (HP.out x (List.mem_of_getElem? hpk))
      have HE := Lib.hid (drop_rest cs k x hpk)
      clear hb hc hpk
      have hzc := zeroChg
      go_wp2_with (first
        | ((with_reducible refine wpList_load_chg HC.out HPL.out rfl (.tmp 12) rfl ?_ ?_); (exact rfl))
        | ((with_reducible refine wpList_store_newchg HPL.out rfl (.tmp 7) (.tmp 13) rfl rfl ?_ chgZero_size ?_); (exact rfl); intro W2 hP hB2 hz2; have HI2 := Lib.hid (HI.out.call hB2); have HP2 := Lib.hid hP; have hv0 := ChVar.no hP; clear HI hP hB2 hz2; generalize wr.heap.size = B at HP2 hv0 ⊢)
        | (with_reducible refine wpList_load_reg HI2.out.reg.range rfl (.tmp 2) rfl rfl ?_))
      refine (other_any HI2.out.disk a z ha hz x.no).mono ?_
      rintro e W3 ⟨rfl, hb3⟩
      have HI3 := Lib.hid (HI2.out.call hb3)
      have HP3 := Lib.hid (RowAt.below HP2.out hb3 (RowAt.lt HP2.out))
      have hv3 := ChVar.no HP3.out
      clear HI2 HP2 hb3 hv0
      by_cases ho : otherB s.last.length a z x.no = true
      · have hoo : 0 ≤ x.no ∧ x.no < (s.last.length : Int) ∧ (x.no < (a : Int) ∨ (a : Int) + (z : Int) ≤ x.no) := of_decide_eq_true ho
        obtain ⟨j, hj⟩ : ∃ j : Nat, x.no = (j : Int) := ⟨x.no.toNat, by omega⟩
        have hj512 : j < 512 := by omega
        have HT : Hid (x.no.toNat = j) := Lib.hid (by omega)
        have HOT := Lib.hid ho
        rw [ho]
        clear hoo ho
        rw [hj] at hv3
        have hm3 := HI3.out.marks.cell j hj512
        have hf3 := HI3.out.marks.free j hj512
        clear hj
        cases hfj : f j with
        | true =>
          have HRW : Hid (takesB s.last.length a z cs = false) := Lib.hid (by rw [HR.out, HE.out, takes_bad (by rw [HT.out, hfj]; simp)])
          rw [hfj] at hm3
          go_wp2
          go_ret
          exact ⟨by rw [HRW.out]; rfl, HI3.out.below⟩
        | false =>
          have HRW : Hid (takesB s.last.length a z cs = takesFrom s.last.length a z (mark f j) (cs.drop (k + 1))) := Lib.hid (by rw [HR.out, HE.out, takes_ok HOT.out (by rw [HT.out, hfj]), HT.out])
          rw [hfj] at hm3
          go_wp2
          go_roundw
          case rel => exact ⟨k + 1, _, by omega, by go_num, HI3.out.set j hj512, HRW.out⟩
          case measure => simp [intOf]; omega
      · have HRW : Hid (takesB s.last.length a z cs = false) := Lib.hid (by rw [HR.out, HE.out, takes_bad (fun q => ho q.1)])
        have ho' : otherB s.last.length a z x.no = false := by simpa using ho
        rw [ho']
        clear ho ho'
        go_wp2
        go_ret
        exact ⟨by rw [HRW.out]; rfl, HI3.out.below⟩
    · obtain rfl : k = n := by omega
      have HRW : Hid (takesB s.last.length a z cs = true) := Lib.hid (by rw [HR.out, List.drop_of_length_le (by rw [HN.out]; omega)]; rfl)
      go_wp2_with fail
      go_ret
      exact ⟨by rw [HRW.out]; rfl, HI.out.below⟩
end Go.Proofs.Ytlamllnflbdcjaa
