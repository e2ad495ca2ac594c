/- Texts of the proof. -/
import Derived.Test.YtmpfcgjjejlhdaaGreatAaa
import Derived.Deep.RegionHeld3
import Derived.ProofKit
import Derived.OpenShut
import Derived.ShutString
import Derived.ChangeOld
import Derived.Lib.SmallJoins
import Derived.Deep.Slices
import Derived.WalkKit
import Derived.WalkSpells
import Derived.WalkLawsBesides
import Derived.Laws.BitsAllLaws
import Derived.Lib.Hide
import Derived.Deep.QuietTactic
import Derived.BigQuiet
set_option maxRecDepth 100000
set_option maxHeartbeats 16000000
namespace Go.Proofs.YtmpfcgjjejlhdaaGreat
section
open Go.RowKit Go.Maps
open Dk (zeros zeros_length)
theorem flush_any {w : World} {d l m : Nat} {s : Dk.St} (h : DiskAt w d l m s) : Calls Tryz.prog 98 #[.pointer (some ⟨d, 0, none⟩)] w fun e w' =>
    e = .returned (.int .i64 (Dk.flushE s)) ∧ DiskAt w' d l m (Dk.flush s) ∧ Only [d, l, m] w w' := by
  have HD := Lib.hid h
  have HW := Lib.hid (down_any h)
  have HS := Lib.hid (spend_any h)
  cases hdn : s.down with
  | true =>
    have HE : Hid (Dk.flushE s = 5) := Lib.hid (by unfold Dk.flushE; rw [if_pos hdn])
    have HF : Hid (Dk.flush s = s) := Lib.hid (by unfold Dk.flush; rw [if_pos hdn])
    rw [HE.out, HF.out]
    rw [hdn] at HW
    clear h hdn
    go_enter Tryz.func98, Tryz.ntmps98
    go_wp2_with (go_at_call 52; refine HW.out.mono ?_; rintro e w' ⟨rfl, rfl⟩)
    go_ret
    exact ⟨rfl, HD.out, Only.refl _ _⟩
  | false =>
    rw [hdn] at HW
    have hnd : ¬ s.down = true := by rw [hdn]; simp
    have HE : Hid (Dk.flushE s = Dk.spendE s) := Lib.hid (by unfold Dk.flushE; rw [if_neg hnd])
    by_cases e0 : Dk.spendE s = 0
    · have HF : Hid (Dk.flush s = Dk.flushed (Dk.spend s)) := Lib.hid (by unfold Dk.flush; rw [if_neg hnd, if_pos e0])
      rw [HE.out, HF.out, e0]
      rw [e0] at HS
      clear h hdn hnd e0 HE HF
      generalize Dk.spend s = s1 at HS ⊢
      go_enter Tryz.func98, Tryz.ntmps98
      go_wp2_with fail
      refine HW.out.mono ?_
      rintro e w' ⟨rfl, rfl⟩
      go_wp2_with fail
      refine HS.out.mono ?_
      rintro e w1 ⟨rfl, hd1, ho1, hz1⟩
      have HD1 := Lib.hid hd1
      have HO1 := Lib.hid ho1
      have c4 := hd1.c4
      obtain ⟨D, hown, hD⟩ := hd1.map
      have HM := Lib.hid hD
      have HL := Lib.hid hd1.llt
      have HMM := Lib.hid hd1.mlt
      clear hd1 ho1 hz1 hD HW HS HD
      go_wp2_with (at_range; refine wpList_range_own _ rfl _ 91 rfl 3 97 keyLaw Tryz.underlying91 pageR m (Maps.size D) D rfl hown ?_; intro w0 hrg0 hg0 hs0)
      go_frame
      have HST := Lib.hid (flush_loop_start HD1.out HM.out hrg0 hg0)
      clear hrg0 hg0 hs0 hown
      go_loopw [20] (fun _ wr => ∃ (left : Lit → Bool) (cnt : Nat), FlushAt w1 l m w1.heap.size s1 D left cnt wr) (fun _ wr => wr.rangeLeft m w1.heap.size)
      case atStart => exact ⟨_, _, HST.out⟩
      case round =>
        obtain ⟨left, cnt, hfl⟩ := hrel
        have HFL := Lib.hid hfl
        have hrg := hfl.rg
        clear hfl HST
        go_wp2_with (at_next; refine wpList_next_ranges _ rfl _ rfl 3 keyLaw pageR (Value.int .i64) pageV invK invV m w1.heap.size (Maps.size D) D left cnt rfl hrg ?_ ?_)
        · intro _ hl0
          have HL0 := Lib.hid hl0
          clear hl0
          have c4' : wr.cell? ⟨d, 4, none⟩ = some (.map (some m)) := (HFL.out.only.cell (p := ⟨d, 4, none⟩) HD1.out.dlt (by simpa using HD1.out.dl)).trans c4
          obtain ⟨w2, hcl0, hmp, htn⟩ := MapAt.clear (w := wr) (b := m) (c := s1.cache) ⟨D, tight hrg.owns, HM.out⟩ s1.last.length 0
          have hcl : ∀ ty, (Builtin.clear_ #[91] ty #[.map (some m)]).run Tryz.prog wr = .ok (.tuple #[]) w2 := fun ty => hcl0
          clear hcl0
          go_wp2
          go_ret
          obtain ⟨q1, q2⟩ := flush_end HD1.out HFL.out HL0.out hmp htn
          exact ⟨rfl, q1, (HO1.out.mono (by simp)).trans (q2.mono (by simp))⟩
        · intro x c kl y1 y2 w2 cnt2 hkey hlx hv hat hrg2 hlt hg2 hs2 hen
          obtain ⟨i, rfl, rfl, hi, hci, hcl⟩ := came (y := (y1, y2)) HD1.out.ok HM.out hkey (HFL.out.sub _ hlx) hv hat
          have HI := Lib.hid hi
          have HCI := Lib.hid hci
          have HCL := Lib.hid hcl
          have hilen : (i : Int) < (s1.last.length : Int) := by omega
          have hi0 : (0 : Int) ≤ (i : Int) := by omega
          have HNX := Lib.hid (fun (W : World) (hb : Below w2.heap.size w2 W) => flush_next (w2 := W) HFL.out (Nat.le_refl _) HL.out HMM.out HD1.out.lm hrg2 hg2 hi hci hcl hb)
          have HLT := Lib.hid hlt
          clear hkey hlx hv hat hci hcl hi hs2 hlt hg2
          go_wp2_with (first
            | ((with_reducible refine wpList_store_new rfl (.tmp 5) (.tmp 24) rfl rfl ?_ ?_ HCL.out ?_); (exact rfl); (exact rfl); intro W2 hP hB2 hz2))
          have HQ := Lib.hid (HNX.out W2.drew hB2.drew)
          have c3'' : W2.drew.cell? ⟨d, 3, none⟩ = some (.slice (some ⟨l, 0, none⟩) s1.last.length s1.last.length) := (HQ.out.2.2.cell (p := ⟨d, 3, none⟩) HD1.out.dlt (by simpa using HD1.out.dl)).trans HD1.out.c3
          have HPP := Lib.hid hP
          clear hen hB2 hz2 hP
          refine wp_region_still_tail 7 (by kernel_rfl) (by kernel_rfl) ?_
          simp only [List.take_succ_cons, List.take_zero, List.drop_succ_cons, List.drop_zero]
          change wpStill _ _ W2.drew (fun a' => wpList _ _ _ _ a' W2.drew) _ _
          still_step
          still_step
          still_step
          still_step
          still_step
          refine wpStill_load_page (HPP.out.block rfl) rfl (.tmp 5) rfl rfl ?_
          still_step
          refine wpStill_nil ?_
          refine wpList_store_row HQ.out.1 i (by rw [mixL_length]; exact HI.out) HCL.out rfl (.tmp 31) (.tmp 30) rfl rfl rfl ?_
          go_frame
          go_wp2
          go_roundw
          case rel => exact ⟨_, _, HQ.out.2.1⟩
          case measure => rw [HQ.out.2.1.rg.left_eq, hrg.left_eq]; exact HLT.out
    · have HF : Hid (Dk.flush s = Dk.spend s) := Lib.hid (by unfold Dk.flush; rw [if_neg hnd, if_neg e0])
      rw [HE.out, HF.out]
      have hne2 : (Dk.spendE s == 0) = false := by simpa using e0
      have hne3 : (Dk.spendE s != 0) = true := by simpa using e0
      generalize Dk.spendE s = E at HS hne2 hne3 ⊢
      clear h hdn hnd e0 HE HF
      go_enter Tryz.func98, Tryz.ntmps98
      go_wp2_with fail
      refine HW.out.mono ?_
      rintro e w' ⟨rfl, rfl⟩
      go_wp2_with fail
      refine HS.out.mono ?_
      rintro e w1 ⟨rfl, hd1, ho1, hz1⟩
      go_wp2
      go_ret
      exact ⟨rfl, hd1, ho1.mono (by simp)⟩
end

section
open Go.RowKit Go.Maps
open Dk (zeros zeros_length)
end

section
open Go.RowKit
open Dk (zeros zeros_length)
section
variable {ops : Array Oper} {Q : Exit → Act → World → Prop} {md : Region.Mode} {S : World → Prop}
theorem take_at {P : Program} {i : Nat} {oi : Oper} {v : Value} {fuel : Nat} {listed : Array Bool} {a : Act} {w : World} {d : Option Tmp} (hi : ops[i]? = some oi) (hd : oi.dst = d)
    (hs : Region.noSelect ops = true) (hf : Region.free md ops listed i = true) (hr : (Region.ready md ops listed).contains i = true)
    (hQ : ∀ c a w, Q (.panic c) (a.put oi.dst v) w → Q (.panic c) a w) (hy : YieldsIf P ops S oi v a) (hS : S w)
    (h : wpAnyH P md ops Q S fuel (listed.setIfInBounds i true) (a.put d v) w) : wpAnyH P md ops Q S (fuel + 1) listed a w :=
  wpAnyH_take hi hs hf hr hQ hy hS (hd ▸ h)
theorem yields_page {oi : Oper} {a : Act} {b o : Nat} {p : List UInt8} (hw : Region.wanted oi (yielded ops a.tmps) = true) (x : Operand) (ho : oi.op = .load 97 x) (hx : a.eval x = .pointer (some ⟨b, o, none⟩)) (hp : p.length = 64) (hS : ∀ w, S w → w.rangeAt b o (byteVals p)) :
    YieldsIf Tryz.prog ops S oi (pageV p) a :=
  yieldsIf_load_mid hw 97 x ho b o hx (byteVals p) _ hS Tryz.underlying97 rfl (by rw [page_info, byteVals_length, hp])
theorem anyH_one {P : Program} {i : Nat} {oi : Oper} {fuel : Nat} {listed : Array Bool} {a : Act} {w : World} (hr : Region.ready md ops listed = [i]) (hi : ops[i]? = some oi) (hw : Region.wanted oi (yielded ops a.tmps) = true)
    (h : ∀ K : Act → World → Prop, (∀ a w, S w → wpAnyH P md ops Q S fuel (listed.setIfInBounds i true) a w → K a w) → Oper.wp P oi a w K Q) : wpAnyH P md ops Q S (fuel + 1) listed a w := by
  refine wpAnyH_ready hr (by simp) (AllReadyH.cons hi (fun K hK => ?_) AllReadyH.nil)
  rw [if_pos hw]
  exact h K (fun a w hS hW => hK.out a w hS (fun _ => hW))
theorem anyH_load_row {i : Nat} {oi : Oper} {fuel : Nat} {listed : Array Bool} {a : Act} {w : World} {b : Nat} {ps : List (List UInt8)} (h : RowsAt w b ps) (n : Nat) {p : List UInt8} (hn : ps[n]? = some p)
    (hr : Region.ready md ops listed = [i]) (hi : ops[i]? = some oi) (hw : Region.wanted oi (yielded ops a.tmps) = true) (x : Operand) (ho : oi.op = .load 97 x) (hx : a.eval x = .pointer (some ⟨b, n * 64, none⟩)) (d : Option Tmp) (hd : oi.dst = d) (hS : S w)
    (hK : wpAnyH Tryz.prog md ops Q S fuel (listed.setIfInBounds i true) (a.put d (pageV p)) w) : wpAnyH Tryz.prog md ops Q S (fuel + 1) listed a w :=
  anyH_one hr hi hw fun _ hK' => wp_load_mid 97 x ho b (n * 64) hx (byteVals p) _ (h.range n p hn) Tryz.underlying97 rfl (by rw [page_info, byteVals_length, h.size p (List.mem_of_getElem? hn)]) (hK' _ _ hS (hd ▸ hK))
theorem anyH_store_row {i : Nat} {oi : Oper} {fuel : Nat} {listed : Array Bool} {a : Act} {w : World} {b : Nat} {ps : List (List UInt8)} (h : RowsAt w b ps) (n : Nat) (hn : n < ps.length) {p : List UInt8} (hp : p.length = 64)
    (hr : Region.ready md ops listed = [i]) (hi : ops[i]? = some oi) (hw : Region.wanted oi (yielded ops a.tmps) = true) (x y : Operand) (ho : oi.op = .store 97 x y) (hx : a.eval x = .pointer (some ⟨b, n * 64, none⟩)) (hy : a.eval y = pageV p) (d : Option Tmp) (hd : oi.dst = d)
    (hS : S (w.setCells b (n * 64) (byteVals p)))
    (hK : wpAnyH Tryz.prog md ops Q S fuel (listed.setIfInBounds i true) (a.put d undef) (w.setCells b (n * 64) (byteVals p))) : wpAnyH Tryz.prog md ops Q S (fuel + 1) listed a w :=
  anyH_one hr hi hw fun _ hK' => wp_store_mid 97 x y ho b (n * 64) (byteVals p).toArray hx hy (by rw [List.size_toArray, byteVals_length, hp]; exact h.thereAt n hn) (by rw [page_info, List.size_toArray, byteVals_length, hp]) (all_oneCell_toArray (byteVals_one p)) (by
    rw [List.toList_toArray]
    exact hK' _ _ hS (hd ▸ hK))
end
end

section
open Go.RowKit Go.Maps
open Dk (zeros zeros_length)
end

section
open Go.ChangeShapes Go.WideShapes Go.ChangeAt Go.RowKit
open Dk (zeros zeros_length)
theorem run_neGuard_page (w : World) (x y : Operand) (p q : List UInt8) : (eqGuard .neq 97 x y (pageV p) (pageV q)).run Tryz.prog w = .ok () w :=
  run_eqGuard_agg w .neq 97 x y _ _ (by kernel_rfl)
theorem run_neq_same (w : World) (p : List UInt8) (hp : p.length = 64) : (binOp .neq 97 (pageV p) (pageV p)).run Tryz.prog w = .ok (.bool false) w := by
  rw [run_neq_page w p p hp hp]; simp
theorem laidOut : laidOutB Tryz.prog = true := by kernel_rfl
theorem own : ownKnob Tryz.prog.godebug = none := by kernel_rfl
end

section
open Go.ChangeShapes Go.WideShapes Go.ChangeAt Go.RowKit
open Dk (zeros zeros_length)
theorem list_of {α : Type} (P : Nat → α → Prop) : ∀ (n : Nat), (∀ i, i < n → ∃ a, P i a) → ∃ l : List α, l.length = n ∧ ∀ i, i < n → ∃ a, l[i]? = some a ∧ P i a
  | 0, _ => ⟨[], rfl, fun i hi => by omega⟩
  | n + 1, h => by
    obtain ⟨l, hl, hp⟩ := list_of P n (fun i hi => h i (by omega))
    obtain ⟨a, ha⟩ := h n (by omega)
    refine ⟨l ++ [a], by simp [hl], fun i hi => ?_⟩
    rcases Nat.lt_or_ge i n with hlt | hge
    · obtain ⟨x, hx, hpx⟩ := hp i hlt
      exact ⟨x, by rw [List.getElem?_append_left (by omega)]; exact hx, hpx⟩
    · obtain rfl : i = n := by omega
      exact ⟨a, by rw [List.getElem?_append_right (by omega), hl, Nat.sub_self]; rfl, ha⟩
structure PageRow (w : World) (A : Option Addr) (n : Nat) (ps : List (List UInt8)) : Prop where
  len : ps.length = n
  small : n ≤ maxLen
  size : ∀ p ∈ ps, p.length = 64
  cells : 0 < n → ∃ b off, A = some ⟨b, off, none⟩ ∧ b < w.heap.size ∧ ∀ i p, ps[i]? = some p → w.rangeAt b (off + i * 64) (byteVals p)
theorem PageRow.step {w w' : World} {A : Option Addr} {n : Nat} {ps : List (List UInt8)} (h : PageRow w A n ps) (hb : Below w.heap.size w w') : PageRow w' A n ps where
  len := h.len
  small := h.small
  size := h.size
  cells := fun hn => by
    obtain ⟨b, off, rfl, hlt, hc⟩ := h.cells hn
    exact ⟨b, off, rfl, Nat.lt_of_lt_of_le hlt hb.size, fun i p hi j v hv => (hb.cell (p := ⟨b, off + i * 64 + j, none⟩) hlt).trans (hc i p hi j v hv)⟩
end

section
open Dk (zeros zeros_length)
open Go.ChangeShapes Go.WideShapes Go.ChangeAt Go.RowKit
end

namespace Pg
def insB (a n : Int) : Bool := decide (0 ≤ a ∧ 0 ≤ n ∧ a ≤ 64 - n)
def numB (a n : Int) : Bool := decide (1 ≤ n ∧ n ≤ 4 ∧ 0 ≤ a ∧ a ≤ 64 - n)
theorem ins_yes {a n : Int} (h : insB a n = true) : 0 ≤ a ∧ 0 ≤ n ∧ a ≤ 64 - n := of_decide_eq_true h
theorem num_yes {a n : Int} (h : numB a n = true) : 1 ≤ n ∧ n ≤ 4 ∧ 0 ≤ a ∧ a ≤ 64 - n := of_decide_eq_true h
theorem num_no {a n : Int} (h : numB a n = false) : n < 1 ∨ 4 < n ∨ a < 0 ∨ 64 - n < a := by have := of_decide_eq_false h; omega
theorem ins_mk {a n : Int} (h1 : 0 ≤ a) (h2 : 0 ≤ n) (h3 : a ≤ 64 - n) : insB a n = true := decide_eq_true ⟨h1, h2, h3⟩
theorem num_mk {a n : Int} (h1 : 1 ≤ n) (h2 : n ≤ 4) (h3 : 0 ≤ a) (h4 : a ≤ 64 - n) : numB a n = true := decide_eq_true ⟨h1, h2, h3, h4⟩
def numOf (l : List UInt8) : Int := l.foldl (fun n c => n * 256 + (c.toNat : Int)) 0
theorem numOf_snoc (l : List UInt8) (c : UInt8) : numOf (l ++ [c]) = numOf l * 256 + (c.toNat : Int) := by
  unfold numOf; rw [List.foldl_append]; rfl
theorem numOf_nil : numOf [] = 0 := rfl
theorem fold_from (l : List UInt8) (x : Int) : l.foldl (fun n c => n * 256 + (c.toNat : Int)) x = x * 256 ^ l.length + numOf l := by
  unfold numOf
  induction l generalizing x with
  | nil => simp
  | cons c l ih =>
    rw [List.foldl_cons, List.foldl_cons, ih (x * 256 + (c.toNat : Int)), ih (0 * 256 + (c.toNat : Int)), List.length_cons, Int.pow_succ, Int.add_mul, Int.add_mul]
    have e : x * 256 * 256 ^ l.length = x * (256 ^ l.length * 256) := by rw [Int.mul_assoc, Int.mul_comm 256 (256 ^ l.length)]
    omega
theorem numOf_cons (c : UInt8) (l : List UInt8) : numOf (c :: l) = (c.toNat : Int) * 256 ^ l.length + numOf l := by
  unfold numOf; rw [List.foldl_cons, fold_from, Int.zero_mul, Int.zero_add]; rfl
theorem numOf_bd (l : List UInt8) : 0 ≤ numOf l ∧ numOf l < 256 ^ l.length := by
  induction l with
  | nil => simp [numOf_nil]
  | cons c l ih =>
    obtain ⟨h0, h1⟩ := ih
    have hc := c.toNat_lt
    rw [numOf_cons, List.length_cons, Int.pow_succ]
    generalize (256 : Int) ^ l.length = m at h1 ⊢
    have hm : 0 ≤ m := by omega
    have k1 : (c.toNat : Int) * m ≤ 255 * m := Int.mul_le_mul_of_nonneg_right (by omega) hm
    have k0 : 0 ≤ (c.toNat : Int) * m := Int.mul_nonneg (by omega) hm
    omega
theorem numOf_small (l : List UInt8) (h : l.length ≤ 3) : 0 ≤ numOf l ∧ numOf l < 16777216 := by
  obtain ⟨h0, h1⟩ := numOf_bd l
  refine ⟨h0, ?_⟩
  have : l.length = 0 ∨ l.length = 1 ∨ l.length = 2 ∨ l.length = 3 := by omega
  rcases this with e | e | e | e <;> (rw [e] at h1; omega)
theorem numOf_four (l : List UInt8) (h : l.length ≤ 4) : 0 ≤ numOf l ∧ numOf l < 4294967296 := by
  obtain ⟨h0, h1⟩ := numOf_bd l
  refine ⟨h0, ?_⟩
  have : l.length = 0 ∨ l.length = 1 ∨ l.length = 2 ∨ l.length = 3 ∨ l.length = 4 := by omega
  rcases this with e | e | e | e | e <;> (rw [e] at h1; omega)
def byteAt (k : Nat) (n : Int) : UInt8 := UInt8.ofNat (n / 256 ^ k % 256).toNat
theorem byteAt_nat (k : Nat) (n : Int) : ((byteAt k n).toNat : Int) = n / 256 ^ k % 256 := by
  unfold byteAt
  have h0 := Int.emod_nonneg (n / 256 ^ k) (show (256 : Int) ≠ 0 by omega)
  have h1 := Int.emod_lt_of_pos (n / 256 ^ k) (show (0 : Int) < 256 by omega)
  rw [UInt8.toNat_ofNat']
  omega
def bytesN : Nat → Int → List UInt8
  | 0, _ => []
  | k + 1, n => byteAt k n :: bytesN k n
theorem bytesN_length (k : Nat) (n : Int) : (bytesN k n).length = k := by
  induction k with
  | zero => rfl
  | succ k ih => rw [bytesN, List.length_cons, ih]
theorem emod_step (n m : Int) (hm : 0 < m) : n % (m * 256) = n % m + m * (n / m % 256) := by
  have h1 := Int.mul_ediv_add_emod n m
  have h2 := Int.mul_ediv_add_emod (n / m) 256
  have r0 := Int.emod_nonneg n (show m ≠ 0 by omega)
  have r1 := Int.emod_lt_of_pos n hm
  have q0 := Int.emod_nonneg (n / m) (show (256 : Int) ≠ 0 by omega)
  have q1 := Int.emod_lt_of_pos (n / m) (show (0 : Int) < 256 by omega)
  have e : n = (n % m + m * (n / m % 256)) + (m * 256) * (n / m / 256) := by
    conv => lhs; rw [← h1, ← h2]
    rw [Int.mul_add, Int.mul_assoc]
    omega
  have b1 : m * (n / m % 256) ≤ m * 255 := Int.mul_le_mul_of_nonneg_left (by omega) (by omega)
  have b0 : 0 ≤ m * (n / m % 256) := Int.mul_nonneg (by omega) q0
  conv => lhs; rw [e]
  rw [Int.add_mul_emod_self_left, Int.emod_eq_of_lt (by omega) (by omega)]
theorem numOf_bytesN (k : Nat) (n : Int) : numOf (bytesN k n) = n % 256 ^ k := by
  induction k with
  | zero => simp [bytesN, numOf_nil, Int.emod_one]
  | succ k ih =>
    rw [bytesN, numOf_cons, ih, byteAt_nat, bytesN_length, Int.pow_succ]
    rw [emod_step n (256 ^ k) (Int.pow_pos (by omega))]
    have : n / 256 ^ k % 256 * 256 ^ k = 256 ^ k * (n / 256 ^ k % 256) := Int.mul_comm _ _
    omega
def over (p : List UInt8) (a : Nat) (s : List UInt8) : List UInt8 := p.take a ++ (s ++ p.drop (a + s.length))
theorem over_nil (p : List UInt8) (a : Nat) : over p a [] = p := by unfold over; simp
theorem over_length (p : List UInt8) (a : Nat) (s : List UInt8) (h : a + s.length ≤ p.length) : (over p a s).length = p.length := by
  unfold over; simp; omega
theorem over_at (p : List UInt8) (a : Nat) (s : List UInt8) (j : Nat) (h : a + s.length ≤ p.length) :
    (over p a s)[j]? = if j < a then p[j]? else if j < a + s.length then s[j - a]? else p[j]? := by
  unfold over
  have hl : (p.take a).length = a := by simp; omega
  by_cases h1 : j < a
  · rw [if_pos h1, List.getElem?_append_left (by omega), List.getElem?_take, if_pos h1]
  · rw [if_neg h1, List.getElem?_append_right (by omega), hl]
    by_cases h2 : j < a + s.length
    · rw [if_pos h2, List.getElem?_append_left (by omega)]
    · rw [if_neg h2, List.getElem?_append_right (by omega), List.getElem?_drop]
      congr 1; omega
theorem over_set_before (p : List UInt8) (a : Nat) (s : List UInt8) (c : UInt8) (h : a + 1 + s.length ≤ p.length) : (over p (a + 1) s).set a c = over p a (c :: s) := by
  apply List.ext_getElem?
  intro j
  rw [List.getElem?_set, over_length _ _ _ h, over_at _ _ _ _ h, over_at _ _ _ _ (by rw [List.length_cons]; omega), List.length_cons]
  by_cases h1 : a = j
  · subst h1
    rw [if_pos rfl, if_pos (by omega), if_neg (by omega), if_pos (by omega), Nat.sub_self]; rfl
  · rw [if_neg h1]
    by_cases h2 : j < a
    · rw [if_pos (by omega), if_pos h2]
    · rw [if_neg (by omega), if_neg h2]
      by_cases h3 : j < a + 1 + s.length
      · rw [if_pos h3, if_pos (by omega)]
        obtain ⟨i, rfl⟩ : ∃ i, j = a + 1 + i := ⟨j - (a + 1), by omega⟩
        rw [show a + 1 + i - (a + 1) = i by omega, show a + 1 + i - a = i + 1 by omega, List.getElem?_cons_succ]
      · rw [if_neg h3, if_neg (by omega)]
theorem over_back (p : List UInt8) (a : Nat) (s : List UInt8) (h : a + s.length ≤ p.length) : ((over p a s).drop a).take s.length = s := by
  unfold over
  rw [List.drop_append_of_le_length (by simp; omega), List.drop_take_self, List.nil_append, List.take_left']
  rfl
def getN (p : List UInt8) (a n : Int) : Int := if numB a n = true then numOf ((p.drop a.toNat).take n.toNat) else 0
def setN (p : List UInt8) (a n v : Int) : List UInt8 := if numB a n = true then over p a.toNat (bytesN n.toNat v) else p
def textN (p : List UInt8) (a n : Int) : List UInt8 := if insB a n = true then (p.drop a.toNat).take n.toNat else []
def setTextN (p : List UInt8) (a : Int) (s : List UInt8) : List UInt8 := if insB a s.length = true then over p a.toNat s else p
theorem setN_length (p : List UInt8) (a n v : Int) (h : p.length = 64) : (setN p a n v).length = 64 := by
  unfold setN
  split
  · have := num_yes (by assumption)
    rw [over_length _ _ _ (by rw [bytesN_length]; omega), h]
  · exact h
theorem setTextN_length (p : List UInt8) (a : Int) (s : List UInt8) (h : p.length = 64) : (setTextN p a s).length = 64 := by
  unfold setTextN
  split
  · have := ins_yes (by assumption)
    rw [over_length _ _ _ (by omega), h]
  · exact h
end Pg

section
open Go.RowKit
theorem inside_any (a n : Int) (w : World) (h1 : -9223372036854775808 ≤ n) (h2 : n ≤ 9223372036854775807) :
    Calls Tryz.prog 115 #[.int .i64 a, .int .i64 n] w fun e w' => e = .returned (.bool (Pg.insB a n)) ∧ w = w' := by
  go_enter Tryz.func115, Tryz.ntmps115
  by_cases c1 : 0 ≤ a
  · by_cases c2 : 0 ≤ n
    · go_wp2
      go_ret
      exact ⟨ret_bool (by unfold Pg.insB; rw [decide_eq_decide]; omega), rfl⟩
    · go_wp2
      go_ret
      exact ⟨ret_bool (by unfold Pg.insB; symm; rw [decide_eq_false_iff_not]; omega), rfl⟩
  · go_wp2
    go_ret
    exact ⟨ret_bool (by unfold Pg.insB; symm; rw [decide_eq_false_iff_not]; omega), rfl⟩
theorem inside_yes (a n : Int) (w : World) (h1 : -9223372036854775808 ≤ n) (h2 : n ≤ 9223372036854775807) (h : Pg.insB a n = true) :
    Calls Tryz.prog 115 #[.int .i64 a, .int .i64 n] w fun e w' => e = .returned (.bool true) ∧ w = w' := h ▸ inside_any a n w h1 h2
theorem inside_no (a n : Int) (w : World) (h1 : -9223372036854775808 ≤ n) (h2 : n ≤ 9223372036854775807) (h : Pg.insB a n = false) :
    Calls Tryz.prog 115 #[.int .i64 a, .int .i64 n] w fun e w' => e = .returned (.bool false) ∧ w = w' := h ▸ inside_any a n w h1 h2
theorem holds_yes (a n : Int) (w : World) (h : Pg.numB a n = true) :
    Calls Tryz.prog 139 #[.int .i64 a, .int .i64 n] w fun e w' => e = .returned (.bool true) ∧ w = w' := by
  obtain ⟨c1, c2, c3, c4⟩ := Pg.num_yes h
  have HI := Lib.hid (Pg.ins_mk c3 (show 0 ≤ n by omega) c4)
  clear h
  go_enter Tryz.func139, Tryz.ntmps139
  go_wp2_with (go_at_call 115; refine (inside_yes _ _ _ (by omega) (by omega) HI.out).mono ?_; rintro e w' ⟨rfl, rfl⟩)
  go_ret
  exact ⟨rfl, rfl⟩
theorem holds_no (a n : Int) (w : World) (h1 : -9223372036854775808 ≤ n) (h2 : n ≤ 9223372036854775807) (h : Pg.numB a n = false) :
    Calls Tryz.prog 139 #[.int .i64 a, .int .i64 n] w fun e w' => e = .returned (.bool false) ∧ w = w' := by
  have hn := Pg.num_no h
  clear h
  by_cases c1 : 1 ≤ n
  · by_cases c2 : n ≤ 4
    · have HI : Hid (Pg.insB a n = false) := Lib.hid (by unfold Pg.insB; rw [decide_eq_false_iff_not]; omega)
      clear hn
      go_enter Tryz.func139, Tryz.ntmps139
      go_wp2_with (go_at_call 115; refine (inside_no _ _ _ (by omega) (by omega) HI.out).mono ?_; rintro e w' ⟨rfl, rfl⟩)
      go_ret
      exact ⟨rfl, rfl⟩
    · clear hn
      go_enter Tryz.func139, Tryz.ntmps139
      go_wp2
      go_ret
      exact ⟨rfl, rfl⟩
  · clear hn
    go_enter Tryz.func139, Tryz.ntmps139
    go_wp2
    go_ret
    exact ⟨rfl, rfl⟩
end

section
open Go.RowKit
open Dk (zeros zeros_length)
theorem wraps_i64 (n : Int) (h₀ : 0 ≤ n) (h₁ : n < 2 ^ 62) : IntKind.i64.wrap n = n := by rw [IntKind.wrap_i64]; omega
theorem or_low (n c : Int) (h0 : 0 ≤ n) (h1 : n < 16777216) (h2 : 0 ≤ c) (h3 : c < 256) : bits BinOp.or IntKind.i64 (n * 256) c = n * 256 + c :=
  bits_join .i64 62 (by decide) wraps_i64 8 (n * 256) c (by omega) (by omega) (by omega) h2 (by omega) (by omega)
theorem take_one {α : Type} (l : List α) (d : α) (k : Nat) (h : k < l.length) : l.take (k + 1) = l.take k ++ [l.getD k d] := by
  rw [List.take_succ_eq_append_getElem h, List.getD_eq_getElem?_getD, List.getElem?_eq_getElem h]; rfl
theorem get_yes (p : List UInt8) (a n : Nat) (w : World) (hp : p.length = 64) (h1 : 1 ≤ n) (h2 : n ≤ 4) (h3 : a + n ≤ 64) :
    Calls Tryz.prog 142 #[pageV p, .int .i64 (a : Int), .int .i64 (n : Int)] w fun e w' => e = .returned (.int .i64 (Pg.numOf ((p.drop a).take n))) ∧ Below w.heap.size w w' := by
  have HP := Lib.hid (pageAt_new w p 97 hp)
  have HL : Hid (((p.drop a).take n).length = n) := Lib.hid (by simp [hp]; omega)
  have HB : Hid (Below w.heap.size w (w.alloc (.cells (byteVals p).toArray 97))) := Lib.hid ((Below.refl _ _).alloc (Nat.le_refl _) _)
  have HN : Hid (Pg.numB (a : Int) (n : Int) = true) := Lib.hid (Pg.num_mk (by omega) (by omega) (by omega) (by omega))
  have HG : Hid (∀ k, k < n → ((p.drop a).take n).getD k 0 = p.getD (a + k) 0) := Lib.hid (fun k hk => by
    rw [List.getD_eq_getElem?_getD, List.getD_eq_getElem?_getD, List.getElem?_take, if_pos hk, List.getElem?_drop])
  clear hp
  generalize (p.drop a).take n = l at HL HG ⊢
  have HS := run_slice_page (w.alloc (.cells (byteVals p).toArray 97)) w.heap.size a n h1 h3
  unfold pageV
  go_enter Tryz.func142, Tryz.ntmps142
  go_wp2_with (go_at_call 139; refine (holds_yes _ _ _ HN.out).mono ?_; rintro e w' ⟨rfl, rfl⟩)
  clear HS
  generalize w.alloc (.cells (byteVals p).toArray 97) = w1 at HP HB ⊢
  go_loop [7, 20] (fun x i => ∃ k : Nat, k ≤ n ∧ i = .int .i64 k ∧ x = .int .i64 (Pg.numOf (l.take k))) (fun _ i => n - (intOf i).toNat)
  case atStart => exact ⟨0, Nat.zero_le _, rfl, rfl⟩
  case round =>
    obtain ⟨k, hk, rfl, rfl⟩ := hrel
    by_cases hlt : k < n
    · have HT : Hid (Pg.numOf (l.take (k + 1)) = Pg.numOf (l.take k) * 256 + ((p.getD (a + k) 0).toNat : Int)) := Lib.hid (by
        rw [take_one l 0 k (by rw [HL.out]; exact hlt), Pg.numOf_snoc, HG.out k hlt])
      have hc := HP.out.cell (a + k) (by omega)
      obtain ⟨r1, r2⟩ := Pg.numOf_small (l.take k) (by simp; omega)
      have hb := (p.getD (a + k) 0).toNat_lt
      have ho := or_low (Pg.numOf (l.take k)) ((p.getD (a + k) 0).toNat : Int) r1 r2 (by omega) (by omega)
      generalize p.getD (a + k) 0 = c at hc HT hb ho
      generalize Pg.numOf (l.take k) = x at r1 r2 HT ho ⊢
      go_wp2
      go_round
      case rel => exact ⟨k + 1, by omega, by go_num, by rw [HT.out]⟩
      case measure => simp [intOf]; omega
    · have HK : Hid (l.take k = l) := Lib.hid (List.take_of_length_le (by rw [HL.out]; omega))
      go_wp2
      go_ret
      exact ⟨ret_int (by rw [HK.out]), HB.out⟩
theorem get_no (p : List UInt8) (a n : Int) (w : World) (h1 : -9223372036854775808 ≤ n) (h2 : n ≤ 9223372036854775807) (h : Pg.numB a n = false) :
    Calls Tryz.prog 142 #[pageV p, .int .i64 a, .int .i64 n] w fun e w' => e = .returned (.int .i64 0) ∧ Below w.heap.size w w' := by
  have HN := Lib.hid h; clear h
  unfold pageV
  go_enter Tryz.func142, Tryz.ntmps142
  go_wp2_with (go_at_call 139; refine (holds_no _ _ _ h1 h2 HN.out).mono ?_; rintro e w' ⟨rfl, rfl⟩)
  go_ret
  exact ⟨rfl, (Below.refl _ _).alloc (Nat.le_refl _) _⟩
theorem get_any (p : List UInt8) (a n : Int) (w : World) (hp : p.length = 64) (h1 : -9223372036854775808 ≤ n) (h2 : n ≤ 9223372036854775807) :
    Calls Tryz.prog 142 #[pageV p, .int .i64 a, .int .i64 n] w fun e w' => e = .returned (.int .i64 (Pg.getN p a n)) ∧ Below w.heap.size w w' := by
  by_cases h : Pg.numB a n = true
  · obtain ⟨c1, c2, c3, c4⟩ := Pg.num_yes h
    obtain ⟨A, rfl⟩ := Int.eq_ofNat_of_zero_le c3
    obtain ⟨N, rfl⟩ := Int.eq_ofNat_of_zero_le (show 0 ≤ n by omega)
    have := get_yes p A N w hp (by omega) (by omega) (by omega)
    unfold Pg.getN
    rw [if_pos h]
    exact this
  · have hf : Pg.numB a n = false := by simpa using h
    have := get_no p a n w h1 h2 hf
    unfold Pg.getN
    rw [if_neg h]
    exact this
end

section
open Go.RowKit
open Dk (zeros zeros_length)
theorem set_start (w : World) (p : List UInt8) (hp : p.length = 64) :
    PageAt ((w.alloc (.cells (byteVals p).toArray 97)).alloc (.cells zeroCells 97)) w.heap.size p ∧ PageAt ((w.alloc (.cells (byteVals p).toArray 97)).alloc (.cells zeroCells 97)) (w.heap.size + 1) zeros ∧
    Below w.heap.size w ((w.alloc (.cells (byteVals p).toArray 97)).alloc (.cells zeroCells 97)) :=
  ⟨(pageAt_new w p _ hp).alloc _, by simpa using pageAt_zeros (w.alloc (.cells (byteVals p).toArray 97)) 97, ((Below.refl _ _).alloc (Nat.le_refl _) _).alloc (by simp) _⟩
theorem pow_byte (k : Nat) : (2 : Int) ^ (8 * k) = 256 ^ k := by rw [Int.pow_mul]; rfl
theorem byte_set (v : Int) (k : Nat) : v / 2 ^ (8 * k) % 256 = ((Pg.byteAt k v).toNat : Int) := by rw [Pg.byteAt_nat, pow_byte]
theorem PageAt.number {w : World} {b : Nat} {p : List UInt8} {j k : Nat} {v : Int} (hp : p.length = 64) (h : PageAt w b (Pg.over p (j + 1) (Pg.bytesN k v))) (hj : j + 1 + k ≤ 64) :
    PageAt (w.setCell ⟨b, j, none⟩ (.int .u8 ((Pg.byteAt k v).toNat : Int))) b (Pg.over p j (Pg.bytesN (k + 1) v)) := by
  have := h.set j (Pg.byteAt k v) (by omega)
  rw [Pg.over_set_before _ _ _ _ (by rw [Pg.bytesN_length]; omega)] at this
  exact this
theorem set_yes (p : List UInt8) (a n : Nat) (v : Int) (w : World) (hp : p.length = 64) (h1 : 1 ≤ n) (h2 : n ≤ 4) (h3 : a + n ≤ 64) :
    Calls Tryz.prog 96 #[pageV p, .int .i64 (a : Int), .int .i64 (n : Int), .int .i64 v] w fun e w' => e = .returned (pageV (Pg.over p a (Pg.bytesN n v))) ∧ Below w.heap.size w w' := by
  have HS := Lib.hid (set_start w p hp)
  have HL := Lib.hid hp
  have HN : Hid (Pg.numB (a : Int) (n : Int) = true) := Lib.hid (Pg.num_mk (by omega) (by omega) (by omega) (by omega))
  clear hp
  unfold pageV
  go_enter Tryz.func96, Tryz.ntmps96
  go_wp2_with (go_at_call 139; refine (holds_yes _ _ _ HN.out).mono ?_; rintro e w' ⟨rfl, rfl⟩)
  rw [← zeroCells_def]
  generalize (w.alloc (.cells (byteVals p).toArray 97)).alloc (.cells zeroCells 97) = w1 at HS ⊢
  go_loopw [16] (fun i wr => ∃ k : Nat, k ≤ n ∧ i = .int .i64 k ∧ PageAt wr w.heap.size (Pg.over p (a + n - k) (Pg.bytesN k v)) ∧ PageAt wr (w.heap.size + 1) zeros ∧ Below w.heap.size w wr) (fun i _ => n - (intOf i).toNat)
  case atStart => exact ⟨0, Nat.zero_le _, rfl, by rw [Pg.bytesN, Pg.over_nil]; exact HS.out.1, HS.out.2.1, HS.out.2.2⟩
  case round =>
    obtain ⟨k, hk, rfl, hp1, hp2, hbel⟩ := hrel
    by_cases hlt : k < n
    · obtain ⟨j, hj⟩ : ∃ j, a + n = j + 1 + k := ⟨a + n - 1 - k, by omega⟩
      have hidx : (a : Int) + (n : Int) - 1 - (k : Int) = (j : Int) := by omega
      have hc := hp1.cell j (by omega)
      have hf := hp1.frozen j (by omega)
      have hj64 : j < 64 := by omega
      have HJ := Lib.hid hj; clear hj
      have HP1 := Lib.hid hp1; clear hp1
      have HV := Lib.hid (byte_set v k)
      go_wp2
      go_roundw
      case rel =>
        refine ⟨k + 1, by omega, by go_num, ?_, ?_, ?_⟩
        · rw [HV.out, show a + n - (k + 1) = j by have := HJ.out; omega]
          refine PageAt.number HL.out ?_ (by have := HJ.out; omega)
          rw [show j + 1 = a + n - k by have := HJ.out; omega]
          exact HP1.out
        · exact hp2.set_other _ _ _ (by omega)
        · exact hbel.setCell (Nat.le_refl _) _
      case measure => simp [intOf]; omega
    · obtain rfl : k = n := by omega
      have HP1 := Lib.hid hp1
      clear hp1
      have HQ : Hid ((Pg.over p (a + k - k) (Pg.bytesN k v)) = Pg.over p a (Pg.bytesN k v)) := Lib.hid (by rw [Nat.add_sub_cancel])
      rw [HQ.out] at HP1
      clear HQ
      have HQ := Lib.hid HP1.out.len
      go_wp2_with (first
        | (with_reducible refine wpList_load_page HP1.out rfl (.tmp 4) rfl rfl ?_)
        | (with_reducible refine wpList_store_page hp2 HQ.out rfl (.tmp 8) (.tmp 32) rfl rfl rfl ?_))
      exact bodyPost_ret (results_page _ 8 rfl _ (hp2.put _ HQ.out) rfl) rfl ⟨rfl, below_setCells _ (by omega) _ _ _ hbel⟩
theorem set_no (p : List UInt8) (a n v : Int) (w : World) (hp : p.length = 64) (h1 : -9223372036854775808 ≤ n) (h2 : n ≤ 9223372036854775807) (h : Pg.numB a n = false) :
    Calls Tryz.prog 96 #[pageV p, .int .i64 a, .int .i64 n, .int .i64 v] w fun e w' => e = .returned (pageV p) ∧ Below w.heap.size w w' := by
  have HN := Lib.hid h; clear h
  have HS := Lib.hid (set_start w p hp)
  have HL := Lib.hid hp; clear hp
  unfold pageV
  go_enter Tryz.func96, Tryz.ntmps96
  go_wp2_with fail
  refine (holds_no _ _ _ h1 h2 HN.out).mono ?_
  rintro e w' ⟨rfl, rfl⟩
  rw [← zeroCells_def]
  generalize (w.alloc (.cells (byteVals p).toArray 97)).alloc (.cells zeroCells 97) = w1 at HS ⊢
  go_wp2_with (first
    | (with_reducible refine wpList_load_page HS.out.1 rfl (.tmp 4) rfl rfl ?_)
    | (with_reducible refine wpList_store_page HS.out.2.1 HL.out rfl (.tmp 8) (.tmp 14) rfl rfl rfl ?_))
  exact bodyPost_ret (results_page _ 8 rfl _ (HS.out.2.1.put _ HL.out) rfl) rfl ⟨rfl, below_setCells _ (by omega) _ _ _ HS.out.2.2⟩
theorem set_any (p : List UInt8) (a n v : Int) (w : World) (hp : p.length = 64) (h1 : -9223372036854775808 ≤ n) (h2 : n ≤ 9223372036854775807) :
    Calls Tryz.prog 96 #[pageV p, .int .i64 a, .int .i64 n, .int .i64 v] w fun e w' => e = .returned (pageV (Pg.setN p a n v)) ∧ Below w.heap.size w w' := by
  by_cases h : Pg.numB a n = true
  · obtain ⟨c1, c2, c3, c4⟩ := Pg.num_yes h
    obtain ⟨A, rfl⟩ := Int.eq_ofNat_of_zero_le c3
    obtain ⟨N, rfl⟩ := Int.eq_ofNat_of_zero_le (show 0 ≤ n by omega)
    have := set_yes p A N v w hp (by omega) (by omega) (by omega)
    unfold Pg.setN
    rw [if_pos h]
    exact this
  · have hf : Pg.numB a n = false := by simpa using h
    have := set_no p a n v w hp h1 h2 hf
    unfold Pg.setN
    rw [if_neg h]
    exact this
end

namespace Hd
open Go.Proofs.YtmpfcgjjejlhdaaGreat.Pg
structure Head where
  seq : Int
  live : Bool
  count : Int
  sum : Int
deriving DecidableEq
def zero : Head := ⟨0, false, 0, 0⟩
def rightB (h : Head) : Bool := decide (0 ≤ h.seq ∧ h.seq < 4294967296 ∧ (h.live = true → 1 ≤ h.count ∧ h.count ≤ 512) ∧ (h.live = false → h.count = 0 ∧ h.sum = 0))
theorem right_yes {h : Head} (hr : rightB h = true) : 0 ≤ h.seq ∧ h.seq < 4294967296 ∧ (h.live = true → 1 ≤ h.count ∧ h.count ≤ 512) ∧ (h.live = false → h.count = 0 ∧ h.sum = 0) := of_decide_eq_true hr
def flag (l : Bool) : UInt8 := if l = true then 1 else 0
def parts (a : List UInt8) (b : UInt8) (c d z e : List UInt8) : List UInt8 := a ++ (b :: (c ++ (d ++ (z ++ e))))
def nils : List UInt8 := List.replicate 49 0
def pageH (h : Head) : List UInt8 := parts (bytesN 4 h.seq) (flag h.live) (bytesN 2 h.count) (bytesN 4 h.sum) nils (bytesN 4 h.seq)
def zeros : List UInt8 := List.replicate 64 0
theorem nils_length : nils.length = 49 := List.length_replicate
theorem parts_length {a c d z e : List UInt8} {b : UInt8} (ha : a.length = 4) (hc : c.length = 2) (hd : d.length = 4) (hz : z.length = 49) (he : e.length = 4) : (parts a b c d z e).length = 64 := by
  unfold parts; simp [ha, hc, hd, hz, he]
theorem pageH_length (h : Head) : (pageH h).length = 64 := parts_length (bytesN_length 4 _) (bytesN_length 2 _) (bytesN_length 4 _) nils_length (bytesN_length 4 _)
theorem parts_of (p : List UInt8) (hp : p.length = 64) : ∃ a b c d z e, a.length = 4 ∧ c.length = 2 ∧ d.length = 4 ∧ z.length = 49 ∧ e.length = 4 ∧ p = parts a b c d z e := by
  have h4 : 4 < p.length := by omega
  refine ⟨p.take 4, p[4], (p.drop 5).take 2, (p.drop 7).take 4, (p.drop 11).take 49, p.drop 60, by simp; omega, by simp; omega, by simp; omega, by simp; omega, by simp; omega, ?_⟩
  unfold parts
  have e3 : (p.drop 11).take 49 ++ p.drop 60 = p.drop 11 := by
    have := List.take_append_drop 49 (p.drop 11); rwa [List.drop_drop] at this
  have e2 : (p.drop 7).take 4 ++ p.drop 11 = p.drop 7 := by
    have := List.take_append_drop 4 (p.drop 7); rwa [List.drop_drop] at this
  have e1 : (p.drop 5).take 2 ++ p.drop 7 = p.drop 5 := by
    have := List.take_append_drop 2 (p.drop 5); rwa [List.drop_drop] at this
  rw [e3, e2, e1, ← List.drop_eq_getElem_cons h4, List.take_append_drop]
theorem parts_inj {a c d z e a' c' d' z' e' : List UInt8} {b b' : UInt8} (ha : a.length = a'.length) (hc : c.length = c'.length) (hd : d.length = d'.length) (hz : z.length = z'.length) (h : parts a b c d z e = parts a' b' c' d' z' e') :
    a = a' ∧ b = b' ∧ c = c' ∧ d = d' ∧ z = z' ∧ e = e' := by
  unfold parts at h
  obtain ⟨h1, h⟩ := List.append_inj h ha
  injection h with h2 h
  obtain ⟨h3, h⟩ := List.append_inj h hc
  obtain ⟨h4, h⟩ := List.append_inj h hd
  obtain ⟨h5, h6⟩ := List.append_inj h hz
  exact ⟨h1, h2, h3, h4, h5, h6⟩
theorem byteAt_add (k : Nat) (x m : Int) (hm : 256 ^ k * 256 ∣ m) : byteAt k (x + m) = byteAt k x := by
  unfold byteAt
  obtain ⟨q, rfl⟩ := hm
  have e : (x + 256 ^ k * 256 * q) / 256 ^ k = x / 256 ^ k + 256 * q := by
    rw [Int.mul_assoc, Int.add_mul_ediv_left _ _ (Int.ne_of_gt (Int.pow_pos (by omega)))]
  rw [e, Int.add_mul_emod_self_left]
theorem bytesN_add (k : Nat) (x m : Int) (hm : 256 ^ k ∣ m) : bytesN k (x + m) = bytesN k x := by
  induction k with
  | zero => rfl
  | succ k ih =>
    rw [bytesN, bytesN, byteAt_add k x m (by rw [← Int.pow_succ]; exact hm), ih (Int.dvd_trans ⟨256, Int.pow_succ ..⟩ hm)]
theorem bytes_num (l : List UInt8) : bytesN l.length (numOf l) = l := by
  induction l with
  | nil => rfl
  | cons c l ih =>
    obtain ⟨h0, h1⟩ := numOf_bd l
    rw [List.length_cons, bytesN]
    have e1 : byteAt l.length (numOf (c :: l)) = c := by
      unfold byteAt
      have hc := c.toNat_lt
      rw [numOf_cons, Int.add_comm, Int.mul_comm, Int.add_mul_ediv_left _ _ (Int.ne_of_gt (Int.pow_pos (by omega))), Int.ediv_eq_zero_of_lt h0 h1, Int.zero_add, Int.emod_eq_of_lt (by omega) (by omega), Int.toNat_natCast]
      exact UInt8.ofNat_toNat
    rw [e1, numOf_cons, Int.add_comm, bytesN_add _ _ _ ⟨(c.toNat : Int), Int.mul_comm ..⟩, ih]
theorem num_inj {a b : List UInt8} (hl : a.length = b.length) (h : numOf a = numOf b) : a = b := by
  rw [← bytes_num a, ← bytes_num b, h, hl]
theorem bytes4_inj {x y : Int} (hx : 0 ≤ x) (hx' : x < 4294967296) (hy : 0 ≤ y) (hy' : y < 4294967296) (h : bytesN 4 x = bytesN 4 y) : x = y := by
  have := congrArg numOf h
  rw [numOf_bytesN, numOf_bytesN] at this
  have e : (256 : Int) ^ 4 = 4294967296 := rfl
  rw [e] at this
  omega
def readH (p : List UInt8) : Head := ⟨getN p 0 4, getN p 4 1 == 1, getN p 5 2, getN p 7 4⟩
theorem get_seq {a c d z e : List UInt8} {b : UInt8} (ha : a.length = 4) : getN (parts a b c d z e) 0 4 = numOf a := by
  unfold getN
  rw [if_pos (by decide)]
  congr 1
  show (List.drop 0 _).take 4 = a
  rw [List.drop_zero]
  unfold parts
  rw [List.take_append_of_le_length (by omega), List.take_of_length_le (by omega)]
theorem drop_at {α : Type} (a b : List α) (n : Nat) (h : a.length = n) : (a ++ b).drop n = b := by rw [← h]; exact List.drop_left
theorem get_live {a c d z e : List UInt8} {b : UInt8} (ha : a.length = 4) : getN (parts a b c d z e) 4 1 = (b.toNat : Int) := by
  unfold getN
  rw [if_pos (by decide)]
  show numOf ((List.drop 4 _).take 1) = _
  unfold parts
  rw [drop_at _ _ 4 ha]
  show numOf [b] = _
  rw [numOf_cons, numOf_nil]
  simp
theorem get_count {a c d z e : List UInt8} {b : UInt8} (ha : a.length = 4) (hc : c.length = 2) : getN (parts a b c d z e) 5 2 = numOf c := by
  unfold getN
  rw [if_pos (by decide)]
  congr 1
  show (List.drop 5 _).take 2 = c
  unfold parts
  rw [show (5 : Nat) = 4 + 1 from rfl, ← List.drop_drop, drop_at _ _ 4 ha]
  show (c ++ _).take 2 = c
  rw [List.take_append_of_le_length (by omega), List.take_of_length_le (by omega)]
theorem get_sum {a c d z e : List UInt8} {b : UInt8} (ha : a.length = 4) (hc : c.length = 2) (hd : d.length = 4) : getN (parts a b c d z e) 7 4 = numOf d := by
  unfold getN
  rw [if_pos (by decide)]
  congr 1
  show (List.drop 7 _).take 4 = d
  unfold parts
  rw [show (7 : Nat) = 4 + (1 + 2) from rfl, ← List.drop_drop, drop_at _ _ 4 ha, ← List.drop_drop]
  show ((c ++ _).drop 2).take 4 = d
  rw [drop_at _ _ 2 hc, List.take_append_of_le_length (by omega), List.take_of_length_le (by omega)]
theorem get_again {a c d z e : List UInt8} {b : UInt8} (ha : a.length = 4) (hc : c.length = 2) (hd : d.length = 4) (hz : z.length = 49) (he : e.length = 4) : getN (parts a b c d z e) 60 4 = numOf e := by
  unfold getN
  rw [if_pos (by decide)]
  congr 1
  show (List.drop 60 _).take 4 = e
  unfold parts
  rw [show (60 : Nat) = 4 + (1 + (2 + (4 + 49))) from rfl, ← List.drop_drop, drop_at _ _ 4 ha, ← List.drop_drop]
  show ((c ++ _).drop (2 + (4 + 49))).take 4 = e
  rw [← List.drop_drop, drop_at _ _ 2 hc, ← List.drop_drop, drop_at _ _ 4 hd, drop_at _ _ 49 hz, List.take_of_length_le (by omega)]
theorem read_parts {a c d z e : List UInt8} {b : UInt8} (ha : a.length = 4) (hc : c.length = 2) (hd : d.length = 4) : readH (parts a b c d z e) = ⟨numOf a, ((b.toNat : Int) == 1), numOf c, numOf d⟩ := by
  unfold readH
  rw [get_seq ha, get_live ha, get_count ha hc, get_sum ha hc hd]
theorem read_bd (p : List UInt8) (hp : p.length = 64) : 0 ≤ (readH p).seq ∧ (readH p).seq < 4294967296 ∧ 0 ≤ (readH p).count ∧ (readH p).count < 65536 ∧ 0 ≤ (readH p).sum ∧ (readH p).sum < 4294967296 := by
  obtain ⟨a, b, c, d, z, e, ha, hc, hd, _, _, rfl⟩ := parts_of p hp
  rw [read_parts ha hc hd]
  have h1 := numOf_bd a
  have h2 := numOf_bd c
  have h3 := numOf_bd d
  rw [ha] at h1
  rw [hc] at h2
  rw [hd] at h3
  simp only
  omega
theorem get_bd (p : List UInt8) (hp : p.length = 64) : 0 ≤ getN p 0 4 ∧ getN p 0 4 < 4294967296 ∧ 0 ≤ getN p 60 4 ∧ getN p 60 4 < 4294967296 := by
  obtain ⟨a, b, c, d, z, e, ha, hc, hd, hz, he, rfl⟩ := parts_of p hp
  rw [get_seq ha, get_again ha hc hd hz he]
  have h1 := numOf_four a (by omega)
  have h2 := numOf_four e (by omega)
  omega
theorem read_page (h : Head) (hr : rightB h = true) (h0 : 0 ≤ h.sum) (h1 : h.sum < 4294967296) : readH (pageH h) = h := by
  obtain ⟨r1, r2, r3, r4⟩ := right_yes hr
  unfold pageH
  rw [read_parts (bytesN_length 4 _) (bytesN_length 2 _) (bytesN_length 4 _), numOf_bytesN, numOf_bytesN, numOf_bytesN]
  have e4 : (256 : Int) ^ 4 = 4294967296 := rfl
  have e2 : (256 : Int) ^ 2 = 65536 := rfl
  rw [e4, e2]
  obtain ⟨s, l, c, m⟩ := h
  simp only at *
  cases l with
  | true =>
    have := r3 rfl
    congr 1 <;> omega
  | false =>
    have := r4 rfl
    congr 1 <;> omega
def wholeB (p : List UInt8) : Bool := rightB (readH p) && decide (pageH (readH p) = p)
def decH (p : List UInt8) : Head := if wholeB p = true then readH p else zero
theorem whole_yes {p : List UInt8} (h : wholeB p = true) : rightB (readH p) = true ∧ pageH (readH p) = p := by
  unfold wholeB at h
  rw [Bool.and_eq_true] at h
  exact ⟨h.1, of_decide_eq_true h.2⟩
theorem page_parts {a c d z e : List UInt8} {b : UInt8} (ha : a.length = 4) (hc : c.length = 2) (hd : d.length = 4) (hz : z.length = 49) : pageH (readH (parts a b c d z e)) = parts a b c d z e ↔ (b.toNat ≤ 1 ∧ z = nils ∧ a = e) := by
  rw [read_parts ha hc hd]
  unfold pageH
  have hb4 : bytesN 4 (numOf a) = a := by have := bytes_num a; rwa [ha] at this
  have hb2 : bytesN 2 (numOf c) = c := by have := bytes_num c; rwa [hc] at this
  have hd4 : bytesN 4 (numOf d) = d := by have := bytes_num d; rwa [hd] at this
  rw [hb4, hb2, hd4]
  constructor
  · intro h
    obtain ⟨_, h2, _, _, h5, h6⟩ := parts_inj rfl rfl rfl (by rw [nils_length, hz]) h
    refine ⟨?_, h5.symm, h6⟩
    rw [← h2]
    unfold flag
    split <;> decide
  · rintro ⟨h1, rfl, rfl⟩
    congr 1
    have : b.toNat = 0 ∨ b.toNat = 1 := by omega
    unfold flag
    rcases this with h | h
    · rw [h]; exact (UInt8.toNat_inj.1 (by rw [h]; rfl)).symm
    · rw [h]; exact (UInt8.toNat_inj.1 (by rw [h]; rfl)).symm
theorem parts_at {a c d z e : List UInt8} {b : UInt8} (ha : a.length = 4) (hc : c.length = 2) (hd : d.length = 4) (k : Nat) : (parts a b c d z e).getD (11 + k) 0 = (z ++ e).getD k 0 := by
  rw [List.getD_eq_getElem?_getD, List.getD_eq_getElem?_getD]
  congr 1
  unfold parts
  rw [List.getElem?_append_right (by omega), ha, show 11 + k - 4 = (6 + k) + 1 by omega, List.getElem?_cons_succ, List.getElem?_append_right (by omega), hc, List.getElem?_append_right (by omega), hd]
  congr 1
  omega
theorem parts_flag {a c d z e : List UInt8} {b : UInt8} (ha : a.length = 4) : (parts a b c d z e).getD 4 0 = b := by
  rw [List.getD_eq_getElem?_getD]
  unfold parts
  rw [List.getElem?_append_right (by omega), ha]; rfl
theorem whole_iff (p : List UInt8) (hp : p.length = 64) : wholeB p = true ↔ getN p 0 4 = getN p 60 4 ∧ (p.getD 4 0).toNat ≤ 1 ∧ (∀ i, 11 ≤ i → i < 60 → p.getD i 0 = 0) ∧ rightB (readH p) = true := by
  obtain ⟨a, b, c, d, z, e, ha, hc, hd, hz, he, rfl⟩ := parts_of p hp
  unfold wholeB
  rw [Bool.and_eq_true, decide_eq_true_iff, page_parts ha hc hd hz, get_seq ha, get_again ha hc hd hz he, parts_flag ha]
  constructor
  · rintro ⟨h0, h1, rfl, rfl⟩
    refine ⟨rfl, h1, fun i hi1 hi2 => ?_, h0⟩
    obtain ⟨k, rfl⟩ : ∃ k, i = 11 + k := ⟨i - 11, by omega⟩
    rw [parts_at ha hc hd, List.getD_eq_getElem?_getD, List.getElem?_append_left (by rw [nils_length]; omega)]
    unfold nils
    rw [List.getElem?_replicate, if_pos (by omega)]; rfl
  · rintro ⟨h1, h2, h3, h0⟩
    refine ⟨h0, h2, ?_, num_inj (by omega) h1⟩
    apply List.ext_getElem?
    intro k
    unfold nils
    rw [List.getElem?_replicate]
    by_cases hk : k < 49
    · rw [if_pos hk]
      have := h3 (11 + k) (by omega) (by omega)
      rw [parts_at ha hc hd, List.getD_eq_getElem?_getD, List.getElem?_append_left (by omega), List.getElem?_eq_getElem (by omega)] at this
      rw [List.getElem?_eq_getElem (by omega)]
      exact congrArg some this
    · rw [if_neg hk, List.getElem?_eq_none (by omega)]
theorem page_ends {h : Head} : (pageH h).take 4 = bytesN 4 h.seq ∧ (pageH h).drop 60 = bytesN 4 h.seq := by
  constructor
  · unfold pageH parts
    rw [List.take_append_of_le_length (by rw [bytesN_length]; omega), List.take_of_length_le (by rw [bytesN_length]; omega)]
  · unfold pageH parts
    rw [show (60 : Nat) = 4 + (1 + (2 + (4 + 49))) from rfl, ← List.drop_drop, drop_at _ _ 4 (bytesN_length 4 _), ← List.drop_drop]
    show ((bytesN 2 _ ++ _).drop (2 + (4 + 49))) = _
    rw [← List.drop_drop, drop_at _ _ 2 (bytesN_length 2 _), ← List.drop_drop, drop_at _ _ 4 (bytesN_length 4 _), drop_at _ _ 49 nils_length]
theorem torn (g h : Head) (hg : rightB g = true) (hh : rightB h = true) (hne : g.seq ≠ h.seq) (n : Nat) (hn : n ≤ 64) (hw : wholeB ((pageH g).take n ++ (pageH h).drop n) = true) :
    (pageH g).take n ++ (pageH h).drop n = pageH g ∨ (pageH g).take n ++ (pageH h).drop n = pageH h := by
  obtain ⟨g1, g2, _⟩ := right_yes hg
  obtain ⟨h1, h2, _⟩ := right_yes hh
  obtain ⟨_, hx⟩ := whole_yes hw
  obtain ⟨lg, lh⟩ := And.intro (pageH_length g) (pageH_length h)
  obtain ⟨eg1, eg2⟩ := page_ends (h := g)
  obtain ⟨eh1, eh2⟩ := page_ends (h := h)
  generalize hxd : (pageH g).take n ++ (pageH h).drop n = x at *
  obtain ⟨ex1, ex2⟩ := page_ends (h := readH x)
  rw [hx] at ex1 ex2
  have both : x.take 4 = x.drop 60 := by rw [ex1, ex2]
  by_cases hc : n ≤ 60
  · -- the end is the other's
    have e2 : x.drop 60 = bytesN 4 h.seq := by
      rw [← hxd, ← eh2, List.drop_append, List.drop_of_length_le (by simp; omega), List.nil_append, List.drop_drop]
      congr 1
      simp
      omega
    by_cases hc4 : 4 ≤ n
    · exfalso
      have e1 : x.take 4 = bytesN 4 g.seq := by
        rw [← hxd, ← eg1, List.take_append_of_le_length (by simp; omega), List.take_take]
        congr 1
        omega
      exact hne (bytes4_inj g1 g2 h1 h2 (by rw [← e1, ← e2, both]))
    · right
      have e1 : x.take 4 = (pageH h).take 4 := by rw [both, e2, eh1]
      have e3 : x.drop 4 = (pageH h).drop 4 := by
        rw [← hxd, List.drop_append, List.drop_of_length_le (by simp; omega), List.nil_append, List.drop_drop]
        congr 1
        simp
        omega
      rw [← List.take_append_drop 4 x, e1, e3, List.take_append_drop]
  · left
    have e1 : x.take 60 = (pageH g).take 60 := by
      rw [← hxd, List.take_append_of_le_length (by simp; omega), List.take_take]
      congr 1
      omega
    have e0 : x.take 4 = bytesN 4 g.seq := by
      have := congrArg (List.take 4) e1
      rw [List.take_take, List.take_take] at this
      exact this.trans eg1
    have e2 : x.drop 60 = (pageH g).drop 60 := by rw [← both, e0, eg2]
    rw [← List.take_append_drop 60 x, e1, e2, List.take_append_drop]
def up (n : Int) (p : List UInt8) : Int := max (max n (getN p 0 4 + 1)) (getN p 60 4 + 1)
def nextN (ps : List (List UInt8)) : Int := ps.foldl up 0
theorem nextN_snoc (ps : List (List UInt8)) (p : List UInt8) : nextN (ps ++ [p]) = up (nextN ps) p := by
  unfold nextN; rw [List.foldl_append]; rfl
theorem up_le (n : Int) (p : List UInt8) (M : Int) : up n p ≤ M ↔ n ≤ M ∧ getN p 0 4 < M ∧ getN p 60 4 < M := by unfold up; omega
theorem fold_le (ps : List (List UInt8)) : ∀ (n M : Int), ps.foldl up n ≤ M ↔ n ≤ M ∧ ∀ p ∈ ps, getN p 0 4 < M ∧ getN p 60 4 < M := by
  induction ps with
  | nil => intro n M; simp
  | cons p ps ih =>
    intro n M
    rw [List.foldl_cons, ih, up_le]
    simp only [List.mem_cons, forall_eq_or_imp]
    constructor
    · rintro ⟨⟨h1, h2⟩, h3⟩; exact ⟨h1, h2, h3⟩
    · rintro ⟨h1, h2, h3⟩; exact ⟨⟨h1, h2⟩, h3⟩
theorem nextN_le (ps : List (List UInt8)) (M : Int) : nextN ps ≤ M ↔ 0 ≤ M ∧ ∀ p ∈ ps, getN p 0 4 < M ∧ getN p 60 4 < M := fold_le ps 0 M
theorem nextN_nonneg (ps : List (List UInt8)) : 0 ≤ nextN ps := ((nextN_le ps (nextN ps)).1 (Int.le_refl _)).1
theorem nextN_top (ps : List (List UInt8)) (h : ∀ p ∈ ps, p.length = 64) : nextN ps ≤ 4294967296 :=
  (nextN_le ps _).2 ⟨by omega, fun p hp => by have := get_bd p (h p hp); omega⟩
end Hd

section
open Go.RowKit
open Dk (zeros zeros_length)
open Hd (Head rightB pageH)
def headV (h : Head) : Value := .agg #[.int .i64 h.seq, .bool h.live, .int .i64 h.count, .int .u32 h.sum]
theorem right_true {s : Int} {l : Bool} {c m : Int} (h1 : 0 ≤ s) (h2 : s < 4294967296) (h3 : l = true → 1 ≤ c ∧ c ≤ 512) (h4 : l = false → c = 0 ∧ m = 0) : rightB ⟨s, l, c, m⟩ = true := decide_eq_true ⟨h1, h2, h3, h4⟩
theorem right_cases (s : Int) (l : Bool) (c m : Int) : (s < 0 ∧ rightB ⟨s, l, c, m⟩ = false) ∨ (0 ≤ s ∧ 4294967295 < s ∧ rightB ⟨s, l, c, m⟩ = false) ∨
    (0 ≤ s ∧ s ≤ 4294967295 ∧ ((l = true ∧ c < 1 ∧ rightB ⟨s, l, c, m⟩ = false) ∨ (l = true ∧ 1 ≤ c ∧ 512 < c ∧ rightB ⟨s, l, c, m⟩ = false) ∨ (l = true ∧ 1 ≤ c ∧ c ≤ 512 ∧ rightB ⟨s, l, c, m⟩ = true) ∨
      (l = false ∧ c ≠ 0 ∧ rightB ⟨s, l, c, m⟩ = false) ∨ (l = false ∧ c = 0 ∧ m ≠ 0 ∧ rightB ⟨s, l, c, m⟩ = false) ∨ (l = false ∧ c = 0 ∧ m = 0 ∧ rightB ⟨s, l, c, m⟩ = true))) := by
  have hn : ∀ P : Prop, (¬ (0 ≤ s ∧ s < 4294967296 ∧ (l = true → 1 ≤ c ∧ c ≤ 512) ∧ (l = false → c = 0 ∧ m = 0))) → rightB ⟨s, l, c, m⟩ = false := fun _ h => decide_eq_false h
  by_cases h1 : s < 0
  · exact Or.inl ⟨h1, hn True (by omega)⟩
  by_cases h2 : 4294967295 < s
  · exact Or.inr (Or.inl ⟨by omega, h2, hn True (by omega)⟩)
  refine Or.inr (Or.inr ⟨by omega, by omega, ?_⟩)
  cases l with
  | true =>
    by_cases h3 : c < 1
    · exact Or.inl ⟨rfl, h3, hn True (by simp; omega)⟩
    by_cases h4 : 512 < c
    · exact Or.inr (Or.inl ⟨rfl, by omega, h4, hn True (by simp; omega)⟩)
    exact Or.inr (Or.inr (Or.inl ⟨rfl, by omega, by omega, right_true (by omega) (by omega) (fun _ => ⟨by omega, by omega⟩) (fun h => by cases h)⟩))
  | false =>
    by_cases h3 : c = 0
    · by_cases h4 : m = 0
      · exact Or.inr (Or.inr (Or.inr (Or.inr (Or.inr ⟨rfl, h3, h4, right_true (by omega) (by omega) (fun h => by cases h) (fun _ => ⟨h3, h4⟩)⟩))))
      · exact Or.inr (Or.inr (Or.inr (Or.inr (Or.inl ⟨rfl, h3, h4, hn True (by simp; omega)⟩))))
    · exact Or.inr (Or.inr (Or.inr (Or.inl ⟨rfl, h3, hn True (by simp; omega)⟩)))
theorem right_any (h : Head) (w : World) :
    Calls Tryz.prog 197 #[headV h] w fun e w' => e = .returned (.bool (rightB h)) ∧ Below w.heap.size w w' := by
  obtain ⟨s, l, c, m⟩ := h
  have hc := right_cases s l c m
  unfold headV
  generalize rightB ⟨s, l, c, m⟩ = r at hc ⊢
  rcases hc with ⟨h1, rfl⟩ | ⟨h1, h2, rfl⟩ | ⟨h1, h2, hc⟩
  · go_enter Tryz.func197, Tryz.ntmps197
    go_wp2
    go_ret
    exact ⟨rfl, (Below.refl _ _).alloc (Nat.le_refl _) _⟩
  · go_enter Tryz.func197, Tryz.ntmps197
    go_wp2
    go_ret
    exact ⟨rfl, (Below.refl _ _).alloc (Nat.le_refl _) _⟩
  · have h3 : ¬ s < 0 := by omega
    have h4 : ¬ 4294967295 < s := by omega
    rcases hc with ⟨rfl, g1, rfl⟩ | ⟨rfl, g1, g2, rfl⟩ | ⟨rfl, g1, g2, rfl⟩ | ⟨rfl, g1, rfl⟩ | ⟨rfl, rfl, g2, rfl⟩ | ⟨rfl, rfl, rfl, rfl⟩
    · have g3 : ¬ 1 ≤ c := by omega
      go_enter Tryz.func197, Tryz.ntmps197
      go_wp2
      go_ret
      exact ⟨rfl, (Below.refl _ _).alloc (Nat.le_refl _) _⟩
    · have g3 : ¬ c ≤ 512 := by omega
      go_enter Tryz.func197, Tryz.ntmps197
      go_wp2
      go_ret
      exact ⟨ret_bool (by simp <;> omega), (Below.refl _ _).alloc (Nat.le_refl _) _⟩
    · go_enter Tryz.func197, Tryz.ntmps197
      go_wp2
      go_ret
      exact ⟨ret_bool (by simp <;> omega), (Below.refl _ _).alloc (Nat.le_refl _) _⟩
    · have g3 : (c == 0) = false := by simpa using g1
      go_enter Tryz.func197, Tryz.ntmps197
      go_wp2
      go_ret
      exact ⟨rfl, (Below.refl _ _).alloc (Nat.le_refl _) _⟩
    · have g3 : (m == 0) = false := by simpa using g2
      go_enter Tryz.func197, Tryz.ntmps197
      go_wp2
      go_ret
      exact ⟨ret_bool (by simp), (Below.refl _ _).alloc (Nat.le_refl _) _⟩
    · go_enter Tryz.func197, Tryz.ntmps197
      go_wp2
      go_ret
      exact ⟨rfl, (Below.refl _ _).alloc (Nat.le_refl _) _⟩
theorem right_yes (h : Head) (w : World) (hr : rightB h = true) :
    Calls Tryz.prog 197 #[headV h] w fun e w' => e = .returned (.bool true) ∧ Below w.heap.size w w' := hr ▸ right_any h w
theorem right_no (h : Head) (w : World) (hr : rightB h = false) :
    Calls Tryz.prog 197 #[headV h] w fun e w' => e = .returned (.bool false) ∧ Below w.heap.size w w' := hr ▸ right_any h w
theorem set_chain (h : Head) : Pg.setN (Pg.setN (Pg.setN (if h.live = true then Pg.setN (Pg.setN zeros 0 4 h.seq) 4 1 1 else Pg.setN zeros 0 4 h.seq) 5 2 h.count) 7 4 h.sum) 60 4 h.seq = pageH h := by
  obtain ⟨s, l, c, m⟩ := h
  cases l <;> rfl
end

section
open Go.RowKit
open Dk (zeros zeros_length)
open Hd (Head rightB pageH)
structure Enc (w0 : World) (h : Head) (C : Nat) (p : List UInt8) (W : World) : Prop where
  c0 : W.cell? ⟨w0.heap.size, 0, none⟩ = some (.int .i64 h.seq)
  c1 : W.cell? ⟨w0.heap.size, 1, none⟩ = some (.bool h.live)
  c2 : W.cell? ⟨w0.heap.size, 2, none⟩ = some (.int .i64 h.count)
  c3 : W.cell? ⟨w0.heap.size, 3, none⟩ = some (.int .u32 h.sum)
  res : PageAt W (w0.heap.size + 1) zeros
  cur : PageAt W C p
  far : w0.heap.size + 1 < C
  below : Below w0.heap.size w0 W
theorem Enc.call {w0 : World} {h : Head} {C : Nat} {p : List UInt8} {W W' : World} (k : Enc w0 h C p W) (hb : Below W.heap.size W W') : Enc w0 h C p W' := by
  have hlt := k.res.lt
  exact ⟨(hb.cell (p := ⟨w0.heap.size, 0, none⟩) (by show w0.heap.size < _; omega)).trans k.c0, (hb.cell (p := ⟨w0.heap.size, 1, none⟩) (by show w0.heap.size < _; omega)).trans k.c1,
    (hb.cell (p := ⟨w0.heap.size, 2, none⟩) (by show w0.heap.size < _; omega)).trans k.c2, (hb.cell (p := ⟨w0.heap.size, 3, none⟩) (by show w0.heap.size < _; omega)).trans k.c3,
    k.res.below hb hlt, k.cur.below hb k.cur.lt, k.far, k.below.trans (hb.mono k.below.size)⟩
theorem cell_setCells_far {W : World} (b : Nat) (a : Addr) (h : a.block ≠ b) : ∀ (vs : List Value) (o : Nat) (W : World), (W.setCells b o vs).cell? a = W.cell? a
  | [], _, _ => rfl
  | v :: r, o, W => by
    rw [World.setCells, cell_setCells_far (W := W) b a h r (o + 1)]
    exact World.cell?_setCell_other _ _ _ _ (fun e => h (by rw [← e]))
theorem Enc.store {w0 : World} {h : Head} {C : Nat} {p q : List UInt8} {W : World} (k : Enc w0 h C p W) (hq : q.length = 64) : Enc w0 h C q (W.setCells C 0 (byteVals q)) := by
  have hf := k.far
  exact ⟨(cell_setCells_far (W := W) C ⟨w0.heap.size, 0, none⟩ (by show w0.heap.size ≠ C; omega) _ _ _).trans k.c0, (cell_setCells_far (W := W) C ⟨w0.heap.size, 1, none⟩ (by show w0.heap.size ≠ C; omega) _ _ _).trans k.c1,
    (cell_setCells_far (W := W) C ⟨w0.heap.size, 2, none⟩ (by show w0.heap.size ≠ C; omega) _ _ _).trans k.c2, (cell_setCells_far (W := W) C ⟨w0.heap.size, 3, none⟩ (by show w0.heap.size ≠ C; omega) _ _ _).trans k.c3,
    k.res.put_other _ _ _ (by omega), k.cur.put _ hq, hf, below_setCells _ (by omega) _ _ _ k.below⟩
theorem enc_cells (w : World) (s : Int) (l : Bool) (c m : Int) {w1 : World} (hb : Below (w.heap.size + 2) ((w.alloc (.cells #[.int .i64 s, .bool l, .int .i64 c, .int .u32 m] 207)).alloc (.cells zeroCells 97)) w1) :
    w1.cell? ⟨w.heap.size, 0, none⟩ = some (.int .i64 s) ∧ w1.cell? ⟨w.heap.size, 1, none⟩ = some (.bool l) ∧ w1.cell? ⟨w.heap.size, 2, none⟩ = some (.int .i64 c) ∧ w1.cell? ⟨w.heap.size, 3, none⟩ = some (.int .u32 m) ∧
    PageAt w1 (w.heap.size + 1) zeros ∧ w.heap.size + 1 < w1.heap.size ∧ Below w.heap.size w w1 := by
  have hp : PageAt ((w.alloc (.cells #[.int .i64 s, .bool l, .int .i64 c, .int .u32 m] 207)).alloc (.cells zeroCells 97)) (w.heap.size + 1) zeros := by simpa using pageAt_zeros (w.alloc (.cells #[.int .i64 s, .bool l, .int .i64 c, .int .u32 m] 207)) 97
  refine ⟨?_, ?_, ?_, ?_, hp.below hb (by omega), ?_, ?_⟩
  · refine (hb.cell (p := ⟨w.heap.size, 0, none⟩) (by show w.heap.size < _; omega)).trans ?_
    simp [go_sem]
  · refine (hb.cell (p := ⟨w.heap.size, 1, none⟩) (by show w.heap.size < _; omega)).trans ?_
    simp [go_sem]
  · refine (hb.cell (p := ⟨w.heap.size, 2, none⟩) (by show w.heap.size < _; omega)).trans ?_
    simp [go_sem]
  · refine (hb.cell (p := ⟨w.heap.size, 3, none⟩) (by show w.heap.size < _; omega)).trans ?_
    simp [go_sem]
  · have := hb.size; simp at this; omega
  · exact (((Below.refl _ _).alloc (Nat.le_refl _) _).alloc (by simp) _).trans (hb.mono (by omega))
theorem results_encode (fn : Func) (hf : fn.results = #[.cell 2 97, .tmp 3]) {w : World} {b : Nat} {q : List UInt8} {v : Value} (tmps : Array Value) (h : PageAt w b q) (h2 : tmps.getD 2 undef = .pointer (some ⟨b, 0, none⟩)) (h3 : tmps.getD 3 undef = v) :
    (results fn tmps).run Tryz.prog w = .ok (.tuple #[pageV q, v]) w := by
  have hl := h.loads
  unfold results
  rw [hf]
  simp only [Array.mapM_eq_mapM_toList, List.mapM_cons, List.mapM_nil, h2, h3, asAddr, Sem.run_bind, Sem.run_pure, Result.andThen_ok, hl, Sem.run_map]
  rfl
theorem encode_no (h : Head) (w : World) (hr : rightB h = false) :
    Calls Tryz.prog 182 #[headV h] w fun e w' => e = .returned (.tuple #[pageV zeros, .int .i64 22]) ∧ Below w.heap.size w w' := by
  have HR := Lib.hid (fun (w : World) => right_no h w hr)
  obtain ⟨s, l, c, m⟩ := h
  clear hr
  unfold headV at HR ⊢
  go_enter Tryz.func182, Tryz.ntmps182
  go_wp2_with fail
  refine (HR.out _).mono ?_
  rintro e w1 ⟨rfl, hb⟩
  rw [← zeroCells_def] at hb
  obtain ⟨c0, c1, c2, c3, hp, hlt, hbel⟩ := enc_cells w s l c m (by simpa using hb)
  clear hb
  have HP := Lib.hid hp; clear hp
  go_wp2_with ((with_reducible refine wpList_store_page HP.out zeros_length rfl (.tmp 2) (.tmp 8) rfl ?_ ?_ ?_); (exact rfl); (exact rfl))
  exact bodyPost_ret (results_encode _ rfl _ (HP.out.put _ zeros_length) rfl rfl) rfl ⟨rfl, below_setCells _ (by omega) _ _ _ hbel⟩
theorem encode_yes (h : Head) (w : World) (hr : rightB h = true) (hm0 : 0 ≤ h.sum) (hm1 : h.sum < 4294967296) :
    Calls Tryz.prog 182 #[headV h] w fun e w' => e = .returned (.tuple #[pageV (pageH h), .int .i64 0]) ∧ Below w.heap.size w w' := by
  have HR := Lib.hid (fun (w : World) => right_yes h w hr)
  have HC := Lib.hid (set_chain h)
  clear hr
  generalize pageH h = Z at HC ⊢
  obtain ⟨s, l, c, m⟩ := h
  simp only at hm0 hm1 HC
  unfold headV at HR ⊢
  go_enter Tryz.func182, Tryz.ntmps182
  go_wp2_with fail
  refine (HR.out _).mono ?_
  rintro e w1 ⟨rfl, hb⟩
  rw [← zeroCells_def] at hb
  obtain ⟨c0, c1, c2, c3, hp, hlt, hbel⟩ := enc_cells w s l c m (by simpa using hb)
  clear hb
  have HP := Lib.hid hp; clear hp
  go_wp2_with fail
  rw [← zeroCells_def]
  refine (set_any zeros 0 4 s w1 zeros_length (by omega) (by omega)).mono ?_
  rintro e w2 ⟨rfl, hb2⟩
  have HL := Lib.hid (Pg.setN_length zeros 0 4 s zeros_length)
  generalize hp1 : Pg.setN zeros 0 4 s = p1 at HL HC ⊢
  clear hp1
  have HE0 : Hid (∀ W2, PageAt W2 w2.heap.size p1 → Below w2.heap.size w2 W2 → Enc w ⟨s, l, c, m⟩ w2.heap.size p1 W2) := Lib.hid (fun W2 hP hB => by
    have hbb := hb2.trans (hB.mono hb2.size)
    have hz := hb2.size
    exact ⟨(hbb.cell (p := ⟨w.heap.size, 0, none⟩) (by show w.heap.size < _; omega)).trans c0, (hbb.cell (p := ⟨w.heap.size, 1, none⟩) (by show w.heap.size < _; omega)).trans c1,
      (hbb.cell (p := ⟨w.heap.size, 2, none⟩) (by show w.heap.size < _; omega)).trans c2, (hbb.cell (p := ⟨w.heap.size, 3, none⟩) (by show w.heap.size < _; omega)).trans c3,
      HP.out.below hbb hlt, hP, by omega, hbel.trans (hbb.mono hbel.size)⟩)
  clear HP hb2 hbel c0 c1 c2 c3 hlt
  cases l
  all_goals
    go_wp2_with (first
      | ((with_reducible refine wpList_store_new rfl (.tmp 4) (.tmp 12) rfl rfl ?_ ?_ HL.out ?_); (exact rfl); (exact rfl); intro W2 hP hB2 hz2; have E1 := Lib.hid (HE0.out W2 hP hB2); clear HE0 hP hB2 hz2; generalize w2.heap.size = C at E1 ⊢; have d1 := E1.out.c1; have d2 := E1.out.c2)
      | ((with_reducible refine wpList_load_page E1.out.cur rfl (.tmp 4) rfl rfl ?_)))
  · simp only [Bool.false_eq_true, if_false] at HC
    clear d1 d2
    refine (set_any p1 5 2 c _ HL.out (by omega) (by omega)).mono ?_
    rintro e w5 ⟨rfl, hb5⟩
    have E3 := Lib.hid (E1.out.call hb5)
    have HM := Lib.hid (Pg.setN_length p1 5 2 c HL.out)
    generalize Pg.setN p1 5 2 c = p3 at HM HC ⊢
    clear hb5 E1
    go_wp2_with (first
      | ((with_reducible refine wpList_store_page E3.out.cur HM.out rfl (.tmp 4) (.tmp 20) rfl rfl rfl ?_); have E4 := Lib.hid (E3.out.store HM.out); clear E3; generalize w5.setCells C 0 (byteVals p3) = W5 at E4 ⊢; have d3 := E4.out.c3)
      | ((with_reducible refine wpList_load_page E4.out.cur rfl (.tmp 4) rfl rfl ?_)))
    clear d3
    refine (set_any p3 7 4 m _ HM.out (by omega) (by omega)).mono ?_
    rintro e w6 ⟨rfl, hb6⟩
    have E5 := Lib.hid (E4.out.call hb6)
    have HK := Lib.hid (Pg.setN_length p3 7 4 m HM.out)
    generalize Pg.setN p3 7 4 m = p4 at HK HC ⊢
    clear hb6 E4
    go_wp2_with (first
      | ((with_reducible refine wpList_store_page E5.out.cur HK.out rfl (.tmp 4) (.tmp 25) rfl rfl rfl ?_); have E6 := Lib.hid (E5.out.store HK.out); clear E5; generalize w6.setCells C 0 (byteVals p4) = W6 at E6 ⊢; have d0 := E6.out.c0)
      | ((with_reducible refine wpList_load_page E6.out.cur rfl (.tmp 4) rfl rfl ?_)))
    clear d0
    refine (set_any p4 60 4 s _ HK.out (by omega) (by omega)).mono ?_
    rintro e w7 ⟨rfl, hb7⟩
    have E7 := Lib.hid (E6.out.call hb7)
    have HJ := Lib.hid (Pg.setN_length p4 60 4 s HK.out)
    generalize Pg.setN p4 60 4 s = p5 at HJ HC ⊢
    clear hb7 E6
    go_wp2_with ((with_reducible refine wpList_store_page E7.out.res HJ.out rfl (.tmp 2) (.tmp 29) rfl rfl rfl ?_))
    exact bodyPost_ret (results_encode _ rfl _ (E7.out.res.put _ HJ.out) rfl rfl) rfl ⟨by rw [HC.out]; rfl, below_setCells _ (by omega) _ _ _ E7.out.below⟩
  · simp only [if_true] at HC
    clear d1 d2
    refine (set_any p1 4 1 1 _ HL.out (by omega) (by omega)).mono ?_
    rintro e w4 ⟨rfl, hb4⟩
    have E2 := Lib.hid (E1.out.call hb4)
    have HN := Lib.hid (Pg.setN_length p1 4 1 1 HL.out)
    generalize Pg.setN p1 4 1 1 = p2 at HN HC ⊢
    clear hb4 E1
    go_wp2_with (first
      | ((with_reducible refine wpList_store_page E2.out.cur HN.out rfl (.tmp 4) (.tmp 16) rfl rfl rfl ?_); have E9 := Lib.hid (E2.out.store HN.out); clear E2; generalize w4.setCells C 0 (byteVals p2) = W4 at E9 ⊢; have d1 := E9.out.c1; have d2 := E9.out.c2)
      | ((with_reducible refine wpList_load_page E9.out.cur rfl (.tmp 4) rfl rfl ?_)))
    clear d1 d2
    refine (set_any p2 5 2 c _ HN.out (by omega) (by omega)).mono ?_
    rintro e w5 ⟨rfl, hb5⟩
    have E3 := Lib.hid (E9.out.call hb5)
    have HM := Lib.hid (Pg.setN_length p2 5 2 c HN.out)
    generalize Pg.setN p2 5 2 c = p3 at HM HC ⊢
    clear hb5 E9
    go_wp2_with (first
      | ((with_reducible refine wpList_store_page E3.out.cur HM.out rfl (.tmp 4) (.tmp 20) rfl rfl rfl ?_); have E4 := Lib.hid (E3.out.store HM.out); clear E3; generalize w5.setCells C 0 (byteVals p3) = W5 at E4 ⊢; have d3 := E4.out.c3)
      | ((with_reducible refine wpList_load_page E4.out.cur rfl (.tmp 4) rfl rfl ?_)))
    clear d3
    refine (set_any p3 7 4 m _ HM.out (by omega) (by omega)).mono ?_
    rintro e w6 ⟨rfl, hb6⟩
    have E5 := Lib.hid (E4.out.call hb6)
    have HK := Lib.hid (Pg.setN_length p3 7 4 m HM.out)
    generalize Pg.setN p3 7 4 m = p4 at HK HC ⊢
    clear hb6 E4
    go_wp2_with (first
      | ((with_reducible refine wpList_store_page E5.out.cur HK.out rfl (.tmp 4) (.tmp 25) rfl rfl rfl ?_); have E6 := Lib.hid (E5.out.store HK.out); clear E5; generalize w6.setCells C 0 (byteVals p4) = W6 at E6 ⊢; have d0 := E6.out.c0)
      | ((with_reducible refine wpList_load_page E6.out.cur rfl (.tmp 4) rfl rfl ?_)))
    clear d0
    refine (set_any p4 60 4 s _ HK.out (by omega) (by omega)).mono ?_
    rintro e w7 ⟨rfl, hb7⟩
    have E7 := Lib.hid (E6.out.call hb7)
    have HJ := Lib.hid (Pg.setN_length p4 60 4 s HK.out)
    generalize Pg.setN p4 60 4 s = p5 at HJ HC ⊢
    clear hb7 E6
    go_wp2_with ((with_reducible refine wpList_store_page E7.out.res HJ.out rfl (.tmp 2) (.tmp 29) rfl rfl rfl ?_))
    exact bodyPost_ret (results_encode _ rfl _ (E7.out.res.put _ HJ.out) rfl rfl) rfl ⟨by rw [HC.out]; rfl, below_setCells _ (by omega) _ _ _ E7.out.below⟩
end
end Go.Proofs.YtmpfcgjjejlhdaaGreat
