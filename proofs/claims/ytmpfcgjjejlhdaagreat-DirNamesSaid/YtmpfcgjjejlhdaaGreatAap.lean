/- Texts of the proof. -/
import Derived.Test.YtmpfcgjjejlhdaaGreatAao
import Derived.Lib.DecodeN
import Derived.Lib.IndexAny
import Derived.Lib.FieldsLaws
import Derived.Test.YtmpfcgjjejlhdaaGreatAah
import Derived.Test.YtmpfcgjjejlhdaaGreatAab
import Derived.Lib.SliceRun
import Derived.Maps.AppendAt
import Derived.OwnWalk
import Derived.BigQuiet
import Derived.Test.YtmpfcgjjejlhdaaGreatAam
set_option maxRecDepth 100000
set_option maxHeartbeats 16000000
namespace Go.Proofs.YtmpfcgjjejlhdaaGreat
section
open Dk (zeros zeros_length)
open Go.RowKit Go.Shelf
theorem far_any (r : Int) (w : World) (h1 : 128 ≤ r) (hv : Utf8.valid r = true) : Calls Tryz.prog 106 #[.string ⟨#[0, 47]⟩, .int .i32 r] w fun e w' => e = .returned (.int .i64 (-1)) ∧ Below w.heap.size w w' := by
  by_cases h2 : r = 65533
  · subst h2; exact far_error w
  · have hf := encode_facts r hv h1
    by_cases h3 : 3 ≤ (Utf8.encode r).size
    · exact far_long r w h1 h2 hv h3
    · exact far_two r w h1 h2 hv (by omega)
theorem size_list (s : ByteArray) : s.data.toList.length = s.size := by simp
theorem decodeN_far (n b0 b1 b2 b3 : Nat) (h0 : 128 ≤ b0) :
    128 ≤ (Lib.decodeN n b0 b1 b2 b3).1 ∧ ((Lib.decodeN n b0 b1 b2 b3).1 < 55296 ∨ (57344 ≤ (Lib.decodeN n b0 b1 b2 b3).1 ∧ (Lib.decodeN n b0 b1 b2 b3).1 ≤ 1114111)) ∧ 1 ≤ (Lib.decodeN n b0 b1 b2 b3).2 ∧ (Lib.decodeN n b0 b1 b2 b3).2 ≤ 4 ∧
    (2 ≤ (Lib.decodeN n b0 b1 b2 b3).2 → 128 ≤ b1 ∧ 1 < n) ∧ (3 ≤ (Lib.decodeN n b0 b1 b2 b3).2 → 128 ≤ b2 ∧ 2 < n) ∧ (4 ≤ (Lib.decodeN n b0 b1 b2 b3).2 → 128 ≤ b3 ∧ 3 < n) := by
  unfold Lib.decodeN
  repeat' split
  all_goals (simp only; omega)
theorem get_list (s : ByteArray) (i : Nat) (h : i < s.size) : s.get! i = s.data.toList[i]'(by simpa using h) := by
  show s.get! i = s[i]'h
  simp [ByteArray.get!, getElem!_pos, h]
  rfl
structure Far (s : ByteArray) (i : Nat) (r k : Nat) : Prop where
  dec : Utf8.decode s i = (r, k)
  big : 128 ≤ r
  ok : Utf8.valid (r : Int) = true
  pos : 1 ≤ k
  room : i + k ≤ s.size
  bytes : ∀ j, (h : j < s.data.toList.length) → i ≤ j → j < i + k → 128 ≤ (s.data.toList[j]).toNat
theorem far_at (s : ByteArray) (i : Nat) (hi : i < s.size) (h : 128 ≤ (s[i]'hi).toNat) : ∃ r k, Far s i r k := by
  have hd := Lib.decode_at s i
  have hg : s.get! i = s[i]'hi := get_list s i hi
  obtain ⟨f1, f2, f3, f4, f5, f6, f7⟩ := decodeN_far (s.size - i) (s.get! i).toNat (s.get! (i + 1)).toNat (s.get! (i + 2)).toNat (s.get! (i + 3)).toNat (by rw [hg]; exact h)
  rw [← hd] at f1 f2 f3 f4 f5 f6 f7
  refine ⟨(Utf8.decode s i).1, (Utf8.decode s i).2, rfl, f1, ?_, f3, ?_, ?_⟩
  · unfold Utf8.valid
    rcases f2 with f2 | f2 <;> simp <;> omega
  · have : (Utf8.decode s i).2 = 1 ∨ (Utf8.decode s i).2 = 2 ∨ (Utf8.decode s i).2 = 3 ∨ (Utf8.decode s i).2 = 4 := by omega
    rcases this with e | e | e | e <;> rw [e] at f5 f6 f7 ⊢ <;> omega
  · intro j hj h1 h2
    have hjs : j < s.size := by simpa using hj
    have : j = i ∨ j = i + 1 ∨ j = i + 2 ∨ j = i + 3 := by omega
    rw [← get_list s j hjs]
    rcases this with e | e | e | e
    · subst e; rw [hg]; exact h
    · subst e; exact (f5 (by omega)).1
    · subst e; exact (f6 (by omega)).1
    · subst e; exact (f7 (by omega)).1
theorem bad_far (c : UInt8) (h : 128 ≤ c.toNat) : Nm.bad c = false := by
  unfold Nm.bad
  rw [Bool.or_eq_false_iff, beq_eq_false_iff_ne, beq_eq_false_iff_ne]
  constructor <;> (intro e; subst e; revert h; decide)
theorem bad_take1 (l : List UInt8) (k : Nat) (h : k < l.length) : Nm.badB (l.take (k + 1)) = (Nm.badB (l.take k) || Nm.bad l[k]) := by
  rw [List.take_succ_eq_append_getElem h]
  unfold Nm.badB
  rw [List.any_append]
  simp
theorem bad_in (l : List UInt8) (k : Nat) (h : k < l.length) (hb : Nm.bad l[k] = true) : Nm.badB l = true :=
  List.any_eq_true.2 ⟨_, List.getElem_mem h, hb⟩
theorem bad_step (l : List UInt8) (i : Nat) : ∀ k, i + k ≤ l.length → Nm.badB (l.take i) = false → (∀ j, (h : j < l.length) → i ≤ j → j < i + k → 128 ≤ (l[j]).toNat) → Nm.badB (l.take (i + k)) = false
  | 0, _, h0, _ => h0
  | k + 1, hl, h0, hb => by
    rw [← Nat.add_assoc, bad_take1 l (i + k) (by omega), bad_step l i k (by omega) h0 (fun j h h1 h2 => hb j h h1 (by omega)), bad_far _ (hb (i + k) (by omega) (by omega) (by omega))]
    rfl
theorem run_next_at {w W : World} {s : ByteArray} {i : Nat} (hW : W.heap[w.heap.size]? = some (.stringIter s i)) (hb : Below w.heap.size w W) (hi : i < s.size) (r k : Nat) (hd : Utf8.decode s i = (r, k)) :
    ∃ W2 : World, (∀ ty, (Instr.next (.pointer (some ⟨w.heap.size, 0, none⟩)) true ty).run Tryz.prog W = .ok (.tuple #[.bool true, .int .i64 i, .int .i32 r]) W2) ∧ W2.heap[w.heap.size]? = some (.stringIter s (i + k)) ∧ Below w.heap.size w W2 := by
  have hlt : w.heap.size < W.heap.size := (Array.getElem?_eq_some_iff.1 hW).1
  refine ⟨{ W with heap := W.heap.setIfInBounds w.heap.size (.stringIter s (i + k)) }, fun ty => ?_, ?_, ?_⟩
  · simp only [Instr.next, getObj, setObj, Sem.run_bind, Sem.run, hW, Result.andThen, hi, if_true, hd]
    simp [goInt, Sem.run, hW]
  · simp [hlt]
  · obtain ⟨a1, a2, a3, a4, a5⟩ := hb
    refine ⟨a1, a2, a3, by simpa using a4, fun b hb => ?_⟩
    rw [← a5 b hb]
    simp [Array.getElem?_setIfInBounds]
    omega
theorem run_next_over {w W : World} {s : ByteArray} (hW : W.heap[w.heap.size]? = some (.stringIter s s.size)) (ty : TypeId) :
    (Instr.next (.pointer (some ⟨w.heap.size, 0, none⟩)) true ty).run Tryz.prog W = .ok (.tuple #[.bool false]) W := by
  simp [Instr.next, getObj, Sem.run, hW]
def AnyPost (s : ByteArray) (w : World) (e : Ending) (w' : World) : Prop := (∃ v : Int, e = .returned (.int .i64 v) ∧ decide (0 ≤ v) = Nm.badB s.data.toList) ∧ Below w.heap.size w w'
theorem any_short (s : ByteArray) (w : World) (h8 : s.size ≤ 8) : Calls Tryz.prog 62 #[.string s, .string ⟨#[0, 47]⟩] w (AnyPost s w) := by
  have h8z : decide ((8 : Int) < (s.size : Int)) = false := decide_eq_false (by omega)
  have HC := Lib.hid (size_list s)
  have HU := Lib.hid (fun (w : World) => Any.strings_shouldUseASCIISet (ρ := lay153_ren) { lay153 with } (s.size : Int) w)
  rw [h8z] at HU
  clear h8z
  go_enter Tryz.func62, Tryz.ntmps62
  go_wp2_with (go_at_call 107; refine (HU.out _).mono ?_; rintro e w' ⟨rfl, hw⟩; rw [hw]; clear hw)
  have hst : (w.iter s 0).heap[w.heap.size]? = some (.stringIter s 0) ∧ Below w.heap.size w (w.iter s 0) := ⟨World.iter_heap w s 0, (Below.refl _ _).alloc (Nat.le_refl _) _⟩
  have HS := Lib.hid hst
  clear hst
  generalize w.iter s 0 = w1 at HS ⊢
  go_loopg [9, 10] s.size (fun g _ _ wx => ∃ i : Nat, i + g = s.size ∧ Hid (wx.heap[w.heap.size]? = some (.stringIter s i) ∧ Below w.heap.size w wx) ∧ Hid (Nm.badB (s.data.toList.take i) = false))
  case atStart => exact ⟨0, by omega, HS, Lib.hid rfl⟩
  case round =>
    clear HS
    obtain ⟨i, hig, HS, HN⟩ := hrel
    by_cases hi : i < s.size
    · obtain ⟨x, hx⟩ : ∃ x : UInt8, s[i]'hi = x := ⟨_, rfl⟩
      have HX : Hid (s.data.toList[i]'(by rw [HC.out]; exact hi) = x) := Lib.hid hx
      by_cases h128 : x.toNat < 128
      · have hd := decode_ascii s i hi (by rw [hx]; exact h128)
        rw [hx] at hd
        obtain ⟨W2, hnx, hW1, hW2⟩ := run_next_at HS.out.1 HS.out.2 hi _ _ hd
        have HS2 := Lib.hid (And.intro hW1 hW2)
        have HA := Lib.hid (fun w => ascii_any x w h128)
        clear hd hx HS hW1 hW2
        cases hb : Nm.bad x with
        | true =>
          have HB : Hid (Nm.badB s.data.toList = true) := Lib.hid (bad_in _ i (by rw [HC.out]; exact hi) (by rw [HX.out]; exact hb))
          have HBX := Lib.hid hb
          clear hb
          go_wp2_with (go_at_call 106; refine (HA.out _).mono ?_; rintro e w' ⟨⟨v, rfl, hv, _⟩, rfl⟩; replace hv := hv HBX.out)
          go_ret
          exact ⟨⟨_, rfl, by rw [HB.out]; exact decide_eq_true (by omega)⟩, HS2.out.2⟩
        | false =>
          have HN2 : Hid (Nm.badB (s.data.toList.take (i + 1)) = false) := Lib.hid (by rw [bad_take1 _ i (by rw [HC.out]; exact hi), HN.out, HX.out, hb]; rfl)
          have HBX := Lib.hid hb
          clear hb
          go_wp2_with (go_at_call 106; refine (HA.out _).mono ?_; rintro e w' ⟨⟨v, rfl, _, hv⟩, rfl⟩; replace hv := hv HBX.out)
          go_roundg (gk - 1)
          case measure => omega
          case rel => exact ⟨i + 1, by omega, HS2, HN2⟩
      · obtain ⟨r, k, hf⟩ := far_at s i hi (by rw [hx]; omega)
        obtain ⟨W2, hnx, hW1, hW2⟩ := run_next_at HS.out.1 HS.out.2 hi _ _ hf.dec
        have HS2 := Lib.hid (And.intro hW1 hW2)
        have HF := Lib.hid hf
        have HA := Lib.hid (fun w => far_any (r : Int) w (by have := hf.big; omega) hf.ok)
        have hk1 := hf.pos
        have hk2 := hf.room
        have HN2 : Hid (Nm.badB (s.data.toList.take (i + k)) = false) := Lib.hid (bad_step _ i k (by rw [HC.out]; exact hf.room) HN.out hf.bytes)
        clear hf hx HS hW1 hW2
        go_wp2_with (go_at_call 106; refine (HA.out _).mono ?_; rintro e w' ⟨rfl, hw⟩; have HW := Lib.hid hw; clear hw)
        go_roundg (gk - k)
        case measure => omega
        case rel => exact ⟨i + k, by omega, Lib.hid ⟨(HW.out.block _ (Array.getElem?_eq_some_iff.1 HS2.out.1).1).trans HS2.out.1, HS2.out.2.trans (HW.out.mono HS2.out.2.size)⟩, HN2⟩
    · obtain rfl : i = s.size := by omega
      have hnx := run_next_over HS.out.1
      have HB : Hid (Nm.badB s.data.toList = false) := Lib.hid (by
        have := HN.out
        rw [List.take_of_length_le (by rw [HC.out]; omega)] at this
        exact this)
      go_wp2
      go_ret
      exact ⟨⟨_, rfl, by rw [HB.out]; rfl⟩, HS.out.2⟩
theorem index_bad : ∀ l : List UInt8, decide (0 ≤ Lib.indexAny l [0, 47]) = Nm.badB l
  | [] => rfl
  | b :: l => by
    have ih := index_bad l
    have hg := Lib.indexAny_ge [0, 47] l
    have e : ([0, 47] : List UInt8).contains b = Nm.bad b := by
      unfold Nm.bad
      rw [List.contains_cons, List.contains_cons, List.contains_nil, Bool.or_false]
    unfold Nm.badB at ih ⊢
    rw [List.any_cons, ← ih, Lib.indexAny, e]
    cases Nm.bad b with
    | true => rfl
    | false =>
      rw [if_neg (by decide), Bool.false_or, decide_eq_decide]
      by_cases h : Lib.indexAny l [0, 47] = -1
      · rw [h]; decide
      · rw [if_neg (fun k => h (beq_iff_eq.1 k))]
        omega
theorem indexAny_any (s : ByteArray) (w : World) (h : s.size ≤ 13) : Calls Tryz.prog 62 #[.string s, .string ⟨#[0, 47]⟩] w (AnyPost s w) := by
  by_cases h8 : s.size ≤ 8
  · exact any_short s w h8
  · exact (any_long s w (by omega) h).mono fun _ _ k => ⟨⟨_, k.1, index_bad _⟩, k.2⟩
theorem contains_any (s : ByteArray) (w : World) (hs : s.size ≤ 13) :
    Calls Tryz.prog 24 #[.string s, .string ⟨#[0, 47]⟩] w fun e w' => e = .returned (.bool (Nm.badB s.data.toList)) ∧ Below w.heap.size w w' := by
  have HI := Lib.hid (indexAny_any s w hs)
  cases hb : Nm.badB s.data.toList with
  | true =>
    have HB := Lib.hid hb
    clear hb
    go_enter Tryz.func24, Tryz.ntmps24
    go_wp2_with (go_at_call 62; refine HI.out.mono ?_; rintro e w' ⟨⟨v, rfl, hv⟩, hw⟩; rw [HB.out] at hv; replace hv := of_decide_eq_true hv; have HW := Lib.hid hw; clear hw)
    go_ret
    exact ⟨rfl, HW.out⟩
  | false =>
    have HB := Lib.hid hb
    clear hb
    go_enter Tryz.func24, Tryz.ntmps24
    go_wp2_with (go_at_call 62; refine HI.out.mono ?_; rintro e w' ⟨⟨v, rfl, hv⟩, hw⟩; rw [HB.out] at hv; replace hv := of_decide_eq_false hv; have HW := Lib.hid hw; clear hw)
    go_ret
    exact ⟨ret_bool (decide_eq_false (by omega)), HW.out⟩
end

section
open Dk (zeros zeros_length)
open Go.RowKit
theorem empty_list (s : ByteArray) : s.toList.isEmpty = decide (s.size = 0) := by
  rw [Lib.toList_data, ← size_list]
  cases s.data.toList <;> rfl
structure ChkF (s : ByteArray) : Prop where
  e0 : s.toList.isEmpty = false
  e1 : (s.toList == [46]) = false
  e2 : (s.toList == [46, 46]) = false
  c : Nm.chk s.data.toList = if Nm.badB s.data.toList = true then 22 else 0
theorem chk_far (s : ByteArray) (h : 13 < s.size) : Nm.chk s.data.toList = 36 := by
  unfold Nm.chk
  rw [size_list, if_neg (by omega), if_pos h]
theorem chk_none (s : ByteArray) (h : s.size = 0) : Nm.chk s.data.toList = 2 := by
  unfold Nm.chk
  rw [size_list, if_pos h]
theorem chk_dot (s : ByteArray) (h0 : s.size ≠ 0) (h : s.size ≤ 13) (h1 : s.data.toList = [46] ∨ s.data.toList = [46, 46]) : Nm.chk s.data.toList = 22 := by
  unfold Nm.chk
  rw [size_list, if_neg h0, if_neg (by omega), if_pos (h1.elim Or.inl (fun h => Or.inr (Or.inl h)))]
theorem chk_rest (s : ByteArray) (h0 : s.size ≠ 0) (h : s.size ≤ 13) (h1 : s.data.toList ≠ [46]) (h2 : s.data.toList ≠ [46, 46]) : ChkF s where
  e0 := by rw [empty_list]; exact decide_eq_false h0
  e1 := by rw [Lib.toList_data]; exact beq_eq_false_iff_ne.2 h1
  e2 := by rw [Lib.toList_data]; exact beq_eq_false_iff_ne.2 h2
  c := by
    unfold Nm.chk
    rw [size_list, if_neg h0, if_neg (by omega)]
    cases Nm.badB s.data.toList <;> simp [h1, h2]
theorem check_any (s : ByteArray) (w : World) (hm : s.size ≤ maxLen) :
    Calls Tryz.prog 8 #[.string s] w fun e w' => e = .returned (.int .i64 (Nm.chk s.data.toList)) ∧ Below w.heap.size w w' := by
  unfold maxLen at hm
  by_cases h0 : s.size = 0
  · have e0 : s.toList.isEmpty = true := by rw [empty_list]; exact decide_eq_true h0
    rw [chk_none s h0]
    clear h0
    go_enter Tryz.func8, Tryz.ntmps8
    go_wp2
    go_ret
    exact ⟨rfl, Below.refl _ _⟩
  have e0 : s.toList.isEmpty = false := by rw [empty_list]; exact decide_eq_false h0
  by_cases h13 : 13 < s.size
  · rw [chk_far s h13]
    have hI : (13 : Int) < (s.size : Int) := by omega
    go_enter Tryz.func8, Tryz.ntmps8
    go_wp2
    go_ret
    exact ⟨rfl, Below.refl _ _⟩
  have hI : (s.size : Int) ≤ 13 := by omega
  have HS : Hid (s.size ≤ 13) := Lib.hid (by omega)
  by_cases h1 : s.data.toList = [46]
  · rw [chk_dot s h0 (by omega) (Or.inl h1)]
    have e1 : (s.toList == [46]) = true := by rw [Lib.toList_data, h1]; rfl
    clear h1 h0 h13
    go_enter Tryz.func8, Tryz.ntmps8
    go_wp2
    go_ret
    exact ⟨rfl, Below.refl _ _⟩
  by_cases h2 : s.data.toList = [46, 46]
  · rw [chk_dot s h0 (by omega) (Or.inr h2)]
    have e1 : (s.toList == [46]) = false := by rw [Lib.toList_data, h2]; rfl
    have e2 : (s.toList == [46, 46]) = true := by rw [Lib.toList_data, h2]; rfl
    clear h1 h2 h0 h13
    go_enter Tryz.func8, Tryz.ntmps8
    go_wp2
    go_ret
    exact ⟨rfl, Below.refl _ _⟩
  obtain ⟨e0', e1, e2, hc⟩ := chk_rest s h0 (by omega) h1 h2
  rw [hc]
  clear e0' hc h1 h2 h0 h13
  cases hb : Nm.badB s.data.toList with
  | true =>
    have HB := Lib.hid hb
    clear hb
    go_enter Tryz.func8, Tryz.ntmps8
    go_wp2_with (go_at_call 24; refine (contains_any _ _ HS.out).mono ?_; rw [HB.out]; rintro e w1 ⟨rfl, hw⟩; have HW := Lib.hid hw; clear hw)
    go_ret
    exact ⟨rfl, HW.out⟩
  | false =>
    have HB := Lib.hid hb
    clear hb
    go_enter Tryz.func8, Tryz.ntmps8
    go_wp2_with (go_at_call 24; refine (contains_any _ _ HS.out).mono ?_; rw [HB.out]; rintro e w1 ⟨rfl, hw⟩; have HW := Lib.hid hw; clear hw)
    go_ret
    exact ⟨rfl, HW.out⟩
end

section
open Dk (zeros zeros_length)
open Go.RowKit
def entL (n : Int) (s : ByteArray) : List Value := [.int .i64 n, .string s]
def entV (n : Int) (s : ByteArray) : Value := .agg #[.int .i64 n, .string s]
theorem entL_one (n : Int) (s : ByteArray) : ∀ v ∈ entL n s, v.oneCell' = true := by
  intro v hv
  simp only [entL, List.mem_cons, List.not_mem_nil, or_false] at hv
  rcases hv with rfl | rfl <;> rfl
theorem entT : RowT 41 2 := ⟨⟨_, Tryz.underlying41, rfl⟩, by kernel_rfl⟩
theorem right_eq (n : Int) (s : List UInt8) (h1 : 1 ≤ n) (h2 : n ≤ 65535) : Nm.rightB n s = (Nm.chk s == 0) := by
  unfold Nm.rightB
  cases h : (Nm.chk s == 0) with
  | true => exact decide_eq_true ⟨h1, h2, beq_iff_eq.1 h⟩
  | false => exact decide_eq_false (fun k => beq_eq_false_iff_ne.1 h k.2.2)
theorem right_low (n : Int) (s : List UInt8) (h : n < 1 ∨ 65535 < n) : Nm.rightB n s = false := decide_eq_false (by omega)
theorem nright_any (n : Int) (s : ByteArray) (w : World) (hm : s.size ≤ maxLen) :
    Calls Tryz.prog 87 #[entV n s] w fun e w' => e = .returned (.bool (Nm.rightB n s.data.toList)) ∧ Below w.heap.size w w' := by
  have HM := Lib.hid hm
  clear hm
  have HB : Hid (Below w.heap.size w (w.alloc (.cells (entL n s).toArray 41))) := Lib.hid ((Below.refl _ _).alloc (Nat.le_refl _) _)
  by_cases h1 : 1 ≤ n
  · by_cases h2 : n ≤ 65535
    · rw [right_eq n _ h1 h2]
      have HC := Lib.hid (fun (w : World) => check_any s w HM.out)
      generalize Nm.chk s.data.toList = c at HC ⊢
      unfold entV
      cases hc : (c == 0) with
      | true =>
        go_enter Tryz.func87, Tryz.ntmps87
        go_wp2_with (go_at_call 8; refine (HC.out _).mono ?_; rintro e w1 ⟨rfl, hw⟩; have HW := Lib.hid hw; clear hw)
        go_ret
        exact ⟨rfl, HB.out.trans (HW.out.mono HB.out.size)⟩
      | false =>
        go_enter Tryz.func87, Tryz.ntmps87
        go_wp2_with (go_at_call 8; refine (HC.out _).mono ?_; rintro e w1 ⟨rfl, hw⟩; have HW := Lib.hid hw; clear hw)
        go_ret
        exact ⟨rfl, HB.out.trans (HW.out.mono HB.out.size)⟩
    · rw [right_low n _ (by omega)]
      unfold entV
      go_enter Tryz.func87, Tryz.ntmps87
      go_wp2
      go_ret
      exact ⟨rfl, HB.out⟩
  · rw [right_low n _ (by omega)]
    unfold entV
    go_enter Tryz.func87, Tryz.ntmps87
    go_wp2
    go_ret
    exact ⟨rfl, HB.out⟩
def thereB (i : Int) : Bool := decide (0 ≤ i ∧ i < 4)
theorem isThere_any (i : Int) (w : World) : Calls Tryz.prog 136 #[.int .i64 i] w fun e w' => e = .returned (.bool (thereB i)) ∧ w = w' := by
  by_cases h1 : 0 ≤ i
  · by_cases h2 : i < 4
    · rw [show thereB i = true from decide_eq_true ⟨h1, h2⟩]
      go_enter Tryz.func136, Tryz.ntmps136
      go_wp2
      go_ret
      exact ⟨rfl, rfl⟩
    · rw [show thereB i = false from decide_eq_false (by omega)]
      go_enter Tryz.func136, Tryz.ntmps136
      go_wp2
      go_ret
      exact ⟨rfl, rfl⟩
  · rw [show thereB i = false from decide_eq_false (by omega)]
    go_enter Tryz.func136, Tryz.ntmps136
    go_wp2
    go_ret
    exact ⟨rfl, rfl⟩
theorem stand_any (n : Int) (s : ByteArray) (w : World) (hm : s.size ≤ maxLen) :
    Calls Tryz.prog 137 #[entV n s] w fun e w' => e = .returned (.bool (Nm.standB n s.data.toList)) ∧ Below w.heap.size w w' := by
  have HM := Lib.hid hm
  clear hm
  have HB : Hid (Below w.heap.size w (w.alloc (.cells (entL n s).toArray 41))) := Lib.hid ((Below.refl _ _).alloc (Nat.le_refl _) _)
  have HR := Lib.hid (fun (w : World) => nright_any n s w HM.out)
  by_cases hn : n = 0
  · subst hn
    by_cases hs : s.toList = []
    · rw [show Nm.standB 0 s.data.toList = true by rw [← Lib.toList_data, hs]; rfl]
      unfold entV
      go_enter Tryz.func137, Tryz.ntmps137
      go_wp2
      go_ret
      exact ⟨rfl, HB.out⟩
    · rw [show Nm.standB 0 s.data.toList = Nm.rightB 0 s.data.toList by
        unfold Nm.standB Nm.zeroB
        rw [decide_eq_false (fun h => hs (by rw [Lib.toList_data]; exact h.2)), Bool.false_or]]
      change Hid (∀ w, Calls Tryz.prog _ #[.agg #[.int .i64 0, .string s]] w _) at HR
      unfold entV
      go_enter Tryz.func137, Tryz.ntmps137
      go_wp2_with (go_at_call 87; refine (HR.out _).mono ?_; rintro e w1 ⟨rfl, hw⟩; have HW := Lib.hid hw; clear hw)
      go_ret
      exact ⟨rfl, HB.out.trans (HW.out.mono HB.out.size)⟩
  · rw [show Nm.standB n s.data.toList = Nm.rightB n s.data.toList by
      unfold Nm.standB Nm.zeroB
      rw [decide_eq_false (fun h => hn h.1), Bool.false_or]]
    change Hid (∀ w, Calls Tryz.prog _ #[.agg #[.int .i64 n, .string s]] w _) at HR
    unfold entV
    go_enter Tryz.func137, Tryz.ntmps137
    go_wp2_with (go_at_call 87; refine (HR.out _).mono ?_; rintro e w1 ⟨rfl, hw⟩; have HW := Lib.hid hw; clear hw)
    go_ret
    exact ⟨rfl, HB.out.trans (HW.out.mono HB.out.size)⟩
end

section
open Dk (zeros zeros_length)
open Go.RowKit
structure NputS (w0 : World) (q : List UInt8) (n : Int) (s : ByteArray) (W : World) : Prop where
  page : PageAt W w0.heap.size q
  ent : RowAt W (w0.heap.size + 1) (entL n s)
  out : PageAt W (w0.heap.size + 2) zeros
  below : Below w0.heap.size w0 W
theorem NputS.call {w0 : World} {q : List UInt8} {n : Int} {s : ByteArray} {W W' : World} (k : NputS w0 q n s W) (hb : Below W.heap.size W W') : NputS w0 q n s W' :=
  ⟨k.page.step hb, RowAt.step k.ent hb, k.out.step hb, k.below.trans (hb.mono k.below.size)⟩
theorem NputS.put {w0 : World} {q : List UInt8} {n : Int} {s : ByteArray} {W : World} (k : NputS w0 q n s W) (r : List UInt8) (hr : r.length = 64) : NputS w0 r n s (W.setCells w0.heap.size 0 (byteVals r)) :=
  ⟨k.page.put r hr, k.ent.put_other _ _ _ (by omega), k.out.put_other _ _ _ (by omega), below_setCells _ (Nat.le_refl _) _ _ _ k.below⟩
theorem NputS.back {w0 : World} {q : List UInt8} {n : Int} {s : ByteArray} {W : World} (k : NputS w0 q n s W) (r : List UInt8) (hr : r.length = 64) :
    PageAt (W.setCells (w0.heap.size + 2) 0 (byteVals r)) (w0.heap.size + 2) r ∧ Below w0.heap.size w0 (W.setCells (w0.heap.size + 2) 0 (byteVals r)) :=
  ⟨k.out.put r hr, below_setCells _ (by omega) _ _ _ k.below⟩
theorem nputS_box (w : World) (p : List UInt8) (n : Int) (s : ByteArray) (hp : p.length = 64) :
    NputS w p n s (((w.alloc (.cells (byteVals p).toArray 97)).alloc (.cells #[.int .i64 n, .string s] 41)).alloc (.cells zeroCells 97)) where
  page := ((pageAt_new w p _ hp).alloc _).alloc _
  ent := by
    have h := (rowAt_new (w.alloc (.cells (byteVals p).toArray 97)) (entL n s) 41).alloc (.cells zeroCells 97)
    rw [World.size_alloc] at h
    exact h
  out := by
    have h := pageAt_zeros ((w.alloc (.cells (byteVals p).toArray 97)).alloc (.cells #[.int .i64 n, .string s] 41)) 97
    simp at h
    exact h
  below := (((Below.refl _ _).alloc (Nat.le_refl _) _).alloc (by simp) _).alloc (by simp; omega) _
theorem nzero8 (w : World) : (zeroValue 5).run Tryz.prog w = .ok (.int .u8 0) w := by kernel_rfl
theorem clear_slot {w0 W : World} {q : List UInt8} {m : Int} {s : ByteArray} (k : NputS w0 q m s W) (A : Nat) (hA : A + 16 ≤ 64) (ty : TypeId) (c : Nat) :
    (Builtin.clear_ #[158] ty #[.slice (some ⟨w0.heap.size, A, none⟩) 16 c]).run Tryz.prog W = .ok (.tuple #[]) (W.setCells w0.heap.size A (byteVals (Nm.zs 16))) :=
  Lib.run_clear_slice W _ _ ty (.int .u8 0) Tryz.underlying158 nzero8 rfl rfl w0.heap.size A 16 c (by omega) (fun j hj => k.page.isSome (A + j) (by omega)) (fun j hj => k.page.frozen (A + j) (by omega))
theorem NputS.cleared {w0 W : World} {q : List UInt8} {m : Int} {s : ByteArray} (k : NputS w0 q m s W) (A : Nat) (hA : A + 16 ≤ 64) : NputS w0 (Pg.over q A (Nm.zs 16)) m s (W.setCells w0.heap.size A (byteVals (Nm.zs 16))) :=
  ⟨k.page.over A (Nm.zs 16) (by rw [Nm.zs_length]; exact hA), k.ent.put_other _ _ _ (by omega), k.out.put_other _ _ _ (by omega), below_setCells _ (Nat.le_refl _) _ _ _ k.below⟩
theorem nrun_clear_op {w0 W : World} {q : List UInt8} {m : Int} {s : ByteArray} {ρ : Operand → Value} {op : Oper} (k : NputS w0 q m s W) (A : Nat) (hA : A + 16 ≤ 64) (n : Nat) (v : Operand) (c : Call) (ho : op.op = .call c) (hc : c.callee = .builtin .clear) (ha : c.args = #[v]) (ht : c.argTypes = #[158])
    (hv : ρ v = .slice (some ⟨w0.heap.size, A, none⟩) 16 n) : (execOp ρ op).run Tryz.prog W = .ok (.value (.tuple #[])) (W.setCells w0.heap.size A (byteVals (Nm.zs 16))) := by
  have h := fun ty => clear_slot k A hA ty n
  unfold execOp
  simp [ho, resolve, hc, ha, ht, hv, Go.invoke, Go.builtin, h]
theorem nwpList_clear_put {ops : Array Oper} {rest : List Oper} {op : Oper} {a : Act} {Q : Exit → Act → World → Prop} {w0 W : World} {q : List UInt8} {m : Int} {s : ByteArray} (k : NputS w0 q m s W) (A : Nat) (hA : A + 16 ≤ 64) (n : Nat) (hgd : op.guard = none) (v : Operand) (c : Call) (ho : op.op = .call c) (hc : c.callee = .builtin .clear) (ha : c.args = #[v]) (ht : c.argTypes = #[158])
    (hv : a.eval v = .slice (some ⟨w0.heap.size, A, none⟩) 16 n) (h : ∀ W2, NputS w0 (Pg.over q A (Nm.zs 16)) m s W2 → wpList Tryz.prog ops Q rest (a.put op.dst (.tuple #[])) W2) : wpList Tryz.prog ops Q (op :: rest) a W :=
  wpList_plain hgd fun _ hK => by
    unfold Oper.wp
    rw [nrun_clear_op k A hA n v c ho hc ha ht hv]
    exact hK _ _ (h _ (k.cleared A hA))
theorem nwpList_store_put {ops : Array Oper} {rest : List Oper} {op : Oper} {a : Act} {Q : Exit → Act → World → Prop} {w0 W : World} {q r : List UInt8} {m : Int} {s : ByteArray} (k : NputS w0 q m s W) (hr : r.length = 64) (hgd : op.guard = none) (x y : Operand) (ho : op.op = .store 97 x y)
    (hx : a.eval x = .pointer (some ⟨w0.heap.size, 0, none⟩)) (hy : a.eval y = pageV r) (h : ∀ W2, NputS w0 r m s W2 → wpList Tryz.prog ops Q rest (a.put op.dst undef) W2) : wpList Tryz.prog ops Q (op :: rest) a W :=
  wpList_store_page k.page hr hgd x y ho hx hy (h _ (k.put r hr))
theorem put_yes (p : List UInt8) (i : Int) (A : Nat) (n : Int) (s : ByteArray) (w : World) (hp : p.length = 64) (h0 : 0 ≤ i) (h4 : i < 4) (hA : i * 16 = (A : Int)) (hn : Nm.standB n s.data.toList = true) (hm : s.size ≤ maxLen) :
    Calls Tryz.prog 94 #[pageV p, .int .i64 i, entV n s] w fun e w' => e = .returned (pageV (Pg.setTextN (Pg.setN (Pg.setN (Pg.over p A (Nm.zs 16)) A 2 n) ((A : Int) + 2) 1 s.size) ((A : Int) + 3) s.data.toList)) ∧ Below w.heap.size w w' := by
  have hs := nputS_box w p n s hp
  rw [zeroCells_def] at hs
  have HS := Lib.hid hs; clear hs
  have HT := Lib.hid (fun w => isThere_any i w)
  rw [show thereB i = true from decide_eq_true ⟨h0, h4⟩] at HT
  have HM := Lib.hid (fun w => stand_any n s w hm)
  rw [hn] at HM
  have hA64 : A + 16 ≤ 64 := by omega
  obtain ⟨q1, E1⟩ : ∃ y, Hid (y = Pg.over p A (Nm.zs 16)) := ⟨_, Lib.hid rfl⟩
  have L1 : Hid (q1.length = 64) := Lib.hid (by rw [E1.out, Pg.over_length _ _ _ (by rw [Nm.zs_length]; omega), hp])
  obtain ⟨q2, E2⟩ : ∃ y, Hid (y = Pg.setN q1 A 2 n) := ⟨_, Lib.hid rfl⟩
  have L2 : Hid (q2.length = 64) := Lib.hid (by rw [E2.out]; exact Pg.setN_length _ _ _ _ L1.out)
  have C2 := Lib.hid (fun w => set_any q1 (A : Int) 2 n w L1.out (by decide) (by decide))
  rw [← E2.out] at C2
  obtain ⟨q3, E3⟩ : ∃ y, Hid (y = Pg.setN q2 ((A : Int) + 2) 1 s.size) := ⟨_, Lib.hid rfl⟩
  have L3 : Hid (q3.length = 64) := Lib.hid (by rw [E3.out]; exact Pg.setN_length _ _ _ _ L2.out)
  have C3 := Lib.hid (fun w => set_any q2 ((A : Int) + 2) 1 s.size w L2.out (by decide) (by decide))
  rw [← E3.out] at C3
  obtain ⟨q4, E4⟩ : ∃ y, Hid (y = Pg.setTextN q3 ((A : Int) + 3) s.data.toList) := ⟨_, Lib.hid rfl⟩
  have L4 : Hid (q4.length = 64) := Lib.hid (by rw [E4.out]; exact Pg.setTextN_length _ _ _ L3.out)
  have C4 := Lib.hid (fun w => setText_any q3 ((A : Int) + 3) s w L3.out hm)
  rw [← E4.out] at C4
  rw [← E1.out, ← E2.out, ← E3.out, ← E4.out]
  clear E2 E3 E4 hp hn hm
  unfold pageV entV
  go_enter Tryz.func94, Tryz.ntmps94
  go_wp2_with (first
    | (go_at_call 136; refine (HT.out _).mono ?_; rintro e w' ⟨rfl, rfl⟩)
    | (go_at_call 137; refine (HM.out _).mono ?_; rintro e w2 ⟨rfl, hb⟩; have S := Lib.hid (HS.out.call hb); clear hb HS; have hsl : (Instr.sliceAt 97 (.pointer (some ⟨w.heap.size, 0, none⟩)) (some (.int .i64 (A : Int))) (some (.int .i64 ((A : Int) + 16))) none).run Tryz.prog w2 = .ok (.slice (some ⟨w.heap.size, A, none⟩) 16 (64 - A)) w2 := run_slice_page w2 w.heap.size A 16 (by decide) hA64)
    | ((with_reducible refine nwpList_clear_put S.out A hA64 (64 - A) rfl (.tmp 22) _ rfl rfl rfl rfl ?_ ?_); (exact rfl); clear hsl; intro W2 S2; rw [← E1.out] at S2; replace S := Lib.hid S2; clear S2 E1; have hc := S.out.ent.cell 0 _ rfl)
    | (with_reducible refine wpList_load_page S.out.page rfl (.tmp 3) rfl rfl ?_)
    | (go_at_call 96; (with_reducible refine (C2.out _).mono ?_); rintro e w' ⟨rfl, hb⟩; clear hc C2; replace S := Lib.hid (S.out.call hb); clear hb)
    | ((with_reducible refine nwpList_store_put S.out L2.out rfl (.tmp 3) (.tmp 27) rfl rfl ?_ ?_); (exact rfl); intro W2 S2; replace S := Lib.hid S2; clear S2; have hc := S.out.ent.cell 1 _ rfl)
    | (go_at_call 96; (with_reducible refine (C3.out _).mono ?_); rintro e w' ⟨rfl, hb⟩; clear hc C3; replace S := Lib.hid (S.out.call hb); clear hb)
    | ((with_reducible refine nwpList_store_put S.out L3.out rfl (.tmp 3) (.tmp 34) rfl rfl ?_ ?_); (exact rfl); intro W2 S2; replace S := Lib.hid S2; clear S2; have hc := S.out.ent.cell 1 _ rfl)
    | (go_at_call 67; (with_reducible refine (C4.out _).mono ?_); rintro e w' ⟨rfl, hb⟩; clear hc C4; replace S := Lib.hid (S.out.call hb); clear hb)
    | ((with_reducible refine wpList_store_page S.out.out L4.out rfl (.tmp 6) (.tmp 40) rfl rfl ?_ ?_); (exact rfl)))
  exact bodyPost_ret (results_page _ 6 rfl _ (S.out.back q4 L4.out).1 rfl) rfl ⟨rfl, (S.out.back q4 L4.out).2⟩
end

section
open Dk (zeros zeros_length)
open Go.RowKit
theorem entL_len (n : Int) (s : ByteArray) : (entL n s).length = 2 := rfl
structure NbxS (w0 : World) (p : List UInt8) (W : World) : Prop where
  page : PageAt W w0.heap.size p
  out : RowAt W (w0.heap.size + 1) (entL 0 ⟨#[]⟩)
  below : Below w0.heap.size w0 W
theorem NbxS.call {w0 : World} {p : List UInt8} {W W' : World} (k : NbxS w0 p W) (hb : Below W.heap.size W W') : NbxS w0 p W' :=
  ⟨k.page.step hb, RowAt.step k.out hb, k.below.trans (hb.mono k.below.size)⟩
theorem NbxS.drew {w0 : World} {p : List UInt8} {W : World} (k : NbxS w0 p W) : NbxS w0 p W.drew := ⟨k.page.drew, k.out.drew, k.below.drew⟩
theorem nbxS_box (w : World) (p : List UInt8) (t : TypeId) (hp : p.length = 64) : NbxS w p ((w.alloc (.cells (byteVals p).toArray 97)).alloc (.cells (entL 0 ⟨#[]⟩).toArray t)) where
  page := (pageAt_new w p _ hp).alloc _
  out := by
    have h := rowAt_new (w.alloc (.cells (byteVals p).toArray 97)) (entL 0 ⟨#[]⟩) t
    rw [World.size_alloc] at h
    exact h
  below := ((Below.refl _ _).alloc (Nat.le_refl _) _).alloc (by simp) _
theorem NbxS.back {w0 : World} {p : List UInt8} {W : World} (k : NbxS w0 p W) (n : Int) (s : ByteArray) : RowAt (W.setCells (w0.heap.size + 1) 0 (entL n s)) (w0.heap.size + 1) (entL n s) ∧ Below w0.heap.size w0 (W.setCells (w0.heap.size + 1) 0 (entL n s)) :=
  ⟨k.out.put (entL n s) rfl, below_setCells _ (by omega) _ _ _ k.below⟩
def NgtS (w0 : World) (p : List UInt8) (n : Int) (s : ByteArray) (o : Option (Nat × Bool)) (W : World) : Prop :=
  NbxS w0 p W ∧ match o with
    | none => True
    | some (g, b) => w0.heap.size + 1 < g ∧ RowAt W g (if b = true then entL n s else entL 0 ⟨#[]⟩)
theorem NgtS.call {w0 : World} {p : List UInt8} {n : Int} {s : ByteArray} {o : Option (Nat × Bool)} {W W' : World} (k : NgtS w0 p n s o W) (hb : Below W.heap.size W W') : NgtS w0 p n s o W' := by
  refine ⟨NbxS.call k.1 hb, ?_⟩
  match o, k with
  | none, _ => trivial
  | some (g, true), k => exact ⟨k.2.1, RowAt.step (v := .int .i64 n) (vs := [.string s]) k.2.2 hb⟩
  | some (g, false), k => exact ⟨k.2.1, RowAt.step (v := .int .i64 0) (vs := [.string ⟨#[]⟩]) k.2.2 hb⟩
theorem NgtS.drew {w0 : World} {p : List UInt8} {n : Int} {s : ByteArray} {g : Nat} {b : Bool} {W : World} (k : NgtS w0 p n s (some (g, b)) W) : NgtS w0 p n s (some (g, b)) W.drew := ⟨NbxS.drew k.1, k.2.1, k.2.2.drew⟩
theorem NgtS.alloc {w0 : World} {p : List UInt8} {n : Int} {s : ByteArray} {W : World} {t : TypeId} (k : NbxS w0 p W) : NgtS w0 p n s (some (W.heap.size, false)) (W.alloc (.cells (entL 0 ⟨#[]⟩).toArray t)) :=
  ⟨⟨k.page.alloc _, k.out.alloc _, k.below.alloc k.below.size _⟩, k.out.lt, rowAt_new W (entL 0 ⟨#[]⟩) t⟩
theorem NgtS.put {w0 : World} {p : List UInt8} {n : Int} {s : ByteArray} {g : Nat} {b : Bool} {W : World} (k : NgtS w0 p n s (some (g, b)) W) : NgtS w0 p n s (some (g, true)) (W.setCells g 0 (entL n s)) := by
  obtain ⟨k1, k2, k3⟩ := k
  exact ⟨⟨k1.page.put_other _ _ _ (by omega), k1.out.put_other _ _ _ (by omega), below_setCells _ (by omega) _ _ _ k1.below⟩, k2, k3.put (entL n s) (by cases b <;> rfl)⟩
theorem get_bad (p : List UInt8) (i : Int) (A : Nat) (L m : Int) (t : ByteArray) (w : World) (hp : p.length = 64) (h0 : 0 ≤ i) (h4 : i < 4) (hA : i * 16 = (A : Int))
    (C1 : Hid (∀ w, Calls Tryz.prog 142 #[pageV p, .int .i64 ((A : Int) + 2), .int .i64 1] w fun e w' => e = .returned (.int .i64 L) ∧ Below w.heap.size w w'))
    (C2 : Hid (∀ w, Calls Tryz.prog 142 #[pageV p, .int .i64 (A : Int), .int .i64 2] w fun e w' => e = .returned (.int .i64 m) ∧ Below w.heap.size w w'))
    (C3 : Hid (∀ w, Calls Tryz.prog 162 #[pageV p, .int .i64 ((A : Int) + 3), .int .i64 L] w fun e w' => e = .returned (.string t) ∧ Below w.heap.size w w'))
    (HM : Hid (∀ w, Calls Tryz.prog 137 #[entV m t] w fun e w' => e = .returned (.bool false) ∧ Below w.heap.size w w'))
    : Calls Tryz.prog 132 #[pageV p, .int .i64 i] w fun e w' => e = .returned (.tuple #[entV 0 ⟨#[]⟩, .int .i64 5]) ∧ Below w.heap.size w w' := by
  have HS := Lib.hid (nbxS_box w p 41 hp)
  have HT := Lib.hid (fun w => isThere_any i w)
  rw [show thereB i = true from decide_eq_true ⟨h0, h4⟩] at HT
  have hA64 : A + 16 ≤ 64 := by omega
  have HW3 : Hid (IntKind.i64.wrap ((A : Int) + 3) = (A : Int) + 3) := Lib.hid (IntWalk.i64_in _ (by omega))
  clear hp
  unfold pageV
  go_enter Tryz.func132, Tryz.ntmps132
  go_wp2_with fail
  refine (HT.out _).mono ?_
  rintro e w1 ⟨rfl, hw⟩
  have S : Hid (NbxS w p w1) := Lib.hid (by rw [← hw]; exact HS.out)
  clear hw HS
  go_wp2_with (first
    | (with_reducible refine wpList_load_page S.out.page rfl (.tmp 2) rfl rfl ?_)
    | (go_at_call 142; (with_reducible refine (C1.out _).mono ?_); rintro e w' ⟨rfl, hb⟩; clear C1; replace S := Lib.hid (S.out.call hb); clear hb))
  refine wp_region_lin (NgtS w p m t) (fun i => i == 9 || i == 10) (fun i => [pageV p, .int .i64 (A : Int), .int .i64 m, pageV p, .int .i64 (A : Int), .int .i64 ((A : Int) + 3), .int .i64 L, .string t, entV m t].getD i undef) (none) (by kernel_rfl) (by kernel_rfl) (⟨NbxS.drew S.out, trivial⟩) ?_
  refine lin_step (i := 0) (d := some 19) (v := pageV p) rfl rfl (by kernel_rfl) (by kernel_rfl) rfl rfl (ord_page (by kernel_rfl) (.tmp 2) rfl rfl (fun _ _ hS => hS.1.page)) ?_
  (try simp only [Act.put, puA, puB, puC])
  refine lin_step (i := 1) (d := some 20) (v := .int .i64 (A : Int)) rfl rfl (by kernel_rfl) (by kernel_rfl) rfl rfl (ord_value (by kernel_rfl) ?_) ?_
  · intro _ _ _; go_simp
  (try simp only [Act.put, puA, puB, puC])
  refine lin_step (i := 2) (d := some 21) (v := .int .i64 m) rfl rfl (by kernel_rfl) (by kernel_rfl) rfl rfl (ord_call (f := 142) (args := #[pageV p, .int .i64 (A : Int), .int .i64 2]) (by kernel_rfl) ?_ (fun _ W hS => (C2.out W).mono fun _ _ h => ⟨h.1, NgtS.call hS h.2⟩)) ?_
  · intro _; go_simp
  (try simp only [Act.put, puA, puB, puC])
  refine lin_step (i := 3) (d := some 22) (v := pageV p) rfl rfl (by kernel_rfl) (by kernel_rfl) rfl rfl (ord_page (by kernel_rfl) (.tmp 2) rfl rfl (fun _ _ hS => hS.1.page)) ?_
  (try simp only [Act.put, puA, puB, puC])
  refine lin_step (i := 4) (d := some 23) (v := .int .i64 (A : Int)) rfl rfl (by kernel_rfl) (by kernel_rfl) rfl rfl (ord_value (by kernel_rfl) ?_) ?_
  · intro _ _ _; go_simp
  (try simp only [Act.put, puA, puB, puC])
  refine lin_step (i := 5) (d := some 24) (v := .int .i64 ((A : Int) + 3)) rfl rfl (by kernel_rfl) (by kernel_rfl) rfl rfl (ord_value (by kernel_rfl) ?_) ?_
  · intro _ _ _; go_simp; rw [HW3.out]
  (try simp only [Act.put, puA, puB, puC])
  refine lin_step (i := 6) (d := some 25) (v := .int .i64 L) rfl rfl (by kernel_rfl) (by kernel_rfl) rfl rfl (ord_value (by kernel_rfl) ?_) ?_
  · intro _ _ _; go_simp
  (try simp only [Act.put, puA, puB, puC])
  refine lin_step (i := 7) (d := some 26) (v := .string t) rfl rfl (by kernel_rfl) (by kernel_rfl) rfl rfl (ord_call (f := 162) (args := #[pageV p, .int .i64 ((A : Int) + 3), .int .i64 L]) (by kernel_rfl) ?_ (fun _ W hS => (C3.out W).mono fun _ _ h => ⟨h.1, NgtS.call hS h.2⟩)) ?_
  · intro _; go_simp
  (try simp only [Act.put, puA, puB, puC])
  refine lin_step (i := 8) (d := some 27) (v := entV m t) rfl rfl (by kernel_rfl) (by kernel_rfl) rfl rfl (ord_value (by kernel_rfl) ?_) ?_
  · (intro _ _ _; unfold entV; go_simp) <;> rfl
  (try simp only [Act.put, puA, puB, puC])
  refine lin_turn (i := 9) (d := some 8) (fun u s => ∃ g, w.heap.size + 1 < g ∧ u = .pointer (some ⟨g, 0, none⟩) ∧ s = some (g, false)) rfl rfl (by kernel_rfl) (by kernel_rfl) rfl (by kernel_rfl) (⟨_, _, w.heap.size + 2, by omega, rfl, rfl⟩) (by kernel_rfl) (fun W hS => gives_to (v := .pointer (some ⟨W.heap.size, 0, none⟩)) (w' := W.alloc (.cells (entL 0 ⟨#[]⟩).toArray 41)) (by go_simp; rfl) ⟨some (W.heap.size, false), ⟨W.heap.size, hS.1.out.lt, rfl, rfl⟩, NgtS.alloc hS.1⟩) ?_
  rintro _ _ ⟨g, hg, rfl, rfl⟩
  (try simp only [Act.put, puA, puB, puC])
  refine lin_turn (i := 10) (d := none) (fun u s => u = undef ∧ s = some (g, true)) rfl rfl (by kernel_rfl) (by kernel_rfl) rfl (by kernel_rfl) (⟨_, _, rfl, rfl⟩) (by kernel_rfl) (fun W hS => gives_store_row entT hS.2.2 rfl rfl (entL_one m t) (.tmp 8) (.tmp 27) rfl rfl rfl ⟨some (g, true), ⟨rfl, rfl⟩, NgtS.put hS⟩) ?_
  rintro _ _ ⟨rfl, rfl⟩
  (try simp only [Act.put, puA, puB, puC])
  refine lin_done (by kernel_rfl) ?_
  intro W2 hS
  have S2 : Hid (NgtS w p m t (some (g, true)) W2) := Lib.hid hS
  clear hS S hg
  go_wp2_with fail
  refine wp_region_class (C := NgtS w p m t (some (g, true))) (by kernel_rfl) (NgtS.drew S2.out) ?_
  refine wpQuiet_row entT rfl (.tmp 8) rfl rfl (by kernel_rfl) (fun _ hC => hC.2.2) ?_
  (try simp only [Act.put, puA, puB, puC])
  refine wpQuiet_call 137 #[entV m t] (.bool false) (by kernel_rfl) (fun _ => by go_simp; rfl) (fun W hC => (HM.out W).mono fun _ _ h => ⟨h.1, NgtS.call hC h.2⟩) ?_
  (try simp only [Act.put, puA, puB, puC])
  refine wpQuiet_take (.bool true) (by kernel_rfl) ?_ ?_
  · (intro _ _; go_simp)
  (try simp only [Act.put, puA, puB, puC])
  refine wpQuiet_take (.bool true) (by kernel_rfl) ?_ ?_
  · (intro _ _; go_simp)
  (try simp only [Act.put, puA, puB, puC])
  refine BigFrame.wpQuiet_skip (by kernel_rfl) ?_
  (try simp only [Act.put, puA, puB, puC])
  refine BigFrame.wpQuiet_skip (by kernel_rfl) ?_
  (try simp only [Act.put, puA, puB, puC])
  refine BigFrame.wpQuiet_skip (by kernel_rfl) ?_
  (try simp only [Act.put, puA, puB, puC])
  refine BigFrame.wpQuiet_skip (by kernel_rfl) ?_
  (try simp only [Act.put, puA, puB, puC])
  refine BigFrame.wpQuiet_skip (by kernel_rfl) ?_
  (try simp only [Act.put, puA, puB, puC])
  refine BigFrame.wpQuiet_skip (by kernel_rfl) ?_
  (try simp only [Act.put, puA, puB, puC])
  refine wpQuiet_take (.bool true) (by kernel_rfl) ?_ ?_
  · (intro _ _; go_simp)
  (try simp only [Act.put, puA, puB, puC])
  refine wpQuiet_nil ?_
  intro W3 hC
  have S3 := Lib.hid hC
  clear hC S2
  have R3 : Hid (RowAt W3 g (entL m t)) := Lib.hid S3.out.2.2
  have B3 : Hid (NbxS w p W3) := Lib.hid S3.out.1
  go_wp2_with (first
    | ((with_reducible refine wpList_store_rw entT (vs := entL 0 ⟨#[]⟩) B3.out.out (entL_len _ _) (entL_len _ _) (entL_one _ _) rfl (.tmp 4) (.tmp 39) rfl rfl ?_ ?_); (exact rfl))
    | (with_reducible refine wpList_load_rw entT R3.out (entL_len _ _) rfl (.tmp 8) rfl rfl ?_))
  exact bodyPost_ret (results_row2 entT _ 4 5 rfl _ (B3.out.back _ _).1 rfl rfl rfl) rfl ⟨rfl, (B3.out.back _ _).2⟩
theorem get_other (p : List UInt8) (i : Int) (A : Nat) (L m : Int) (t : ByteArray) (q : List UInt8) (b : Bool) (w : World) (hp : p.length = 64) (h0 : 0 ≤ i) (h4 : i < 4) (hA : i * 16 = (A : Int))
    (C1 : Hid (∀ w, Calls Tryz.prog 142 #[pageV p, .int .i64 ((A : Int) + 2), .int .i64 1] w fun e w' => e = .returned (.int .i64 L) ∧ Below w.heap.size w w'))
    (C2 : Hid (∀ w, Calls Tryz.prog 142 #[pageV p, .int .i64 (A : Int), .int .i64 2] w fun e w' => e = .returned (.int .i64 m) ∧ Below w.heap.size w w'))
    (C3 : Hid (∀ w, Calls Tryz.prog 162 #[pageV p, .int .i64 ((A : Int) + 3), .int .i64 L] w fun e w' => e = .returned (.string t) ∧ Below w.heap.size w w'))
    (HM : Hid (∀ w, Calls Tryz.prog 137 #[entV m t] w fun e w' => e = .returned (.bool true) ∧ Below w.heap.size w w'))
    (C4 : Hid (∀ w, Calls Tryz.prog 94 #[pageV p, .int .i64 i, entV m t] w fun e w' => e = .returned (pageV q) ∧ Below w.heap.size w w'))
    (hq : q.length = 64) (hbq : (!decide (q = p)) = b)
    : Calls Tryz.prog 132 #[pageV p, .int .i64 i] w fun e w' => e = .returned (.tuple #[if b = true then entV 0 ⟨#[]⟩ else entV m t, .int .i64 (if b = true then 5 else 0)]) ∧ Below w.heap.size w w' := by
  have HN : Hid (∀ w, (binOp .neq 97 (pageV q) (pageV p)).run Tryz.prog w = .ok (.bool b) w) := Lib.hid (fun w => by rw [run_neq_page w q p hq hp, hbq])
  clear hq
  clear hbq
  have HS := Lib.hid (nbxS_box w p 41 hp)
  have HT := Lib.hid (fun w => isThere_any i w)
  rw [show thereB i = true from decide_eq_true ⟨h0, h4⟩] at HT
  have hA64 : A + 16 ≤ 64 := by omega
  have HW3 : Hid (IntKind.i64.wrap ((A : Int) + 3) = (A : Int) + 3) := Lib.hid (IntWalk.i64_in _ (by omega))
  clear hp
  unfold pageV
  go_enter Tryz.func132, Tryz.ntmps132
  go_wp2_with fail
  refine (HT.out _).mono ?_
  rintro e w1 ⟨rfl, hw⟩
  have S : Hid (NbxS w p w1) := Lib.hid (by rw [← hw]; exact HS.out)
  clear hw HS
  go_wp2_with (first
    | (with_reducible refine wpList_load_page S.out.page rfl (.tmp 2) rfl rfl ?_)
    | (go_at_call 142; (with_reducible refine (C1.out _).mono ?_); rintro e w' ⟨rfl, hb⟩; clear C1; replace S := Lib.hid (S.out.call hb); clear hb))
  refine wp_region_lin (NgtS w p m t) (fun i => i == 9 || i == 10) (fun i => [pageV p, .int .i64 (A : Int), .int .i64 m, pageV p, .int .i64 (A : Int), .int .i64 ((A : Int) + 3), .int .i64 L, .string t, entV m t].getD i undef) (none) (by kernel_rfl) (by kernel_rfl) (⟨NbxS.drew S.out, trivial⟩) ?_
  refine lin_step (i := 0) (d := some 19) (v := pageV p) rfl rfl (by kernel_rfl) (by kernel_rfl) rfl rfl (ord_page (by kernel_rfl) (.tmp 2) rfl rfl (fun _ _ hS => hS.1.page)) ?_
  (try simp only [Act.put, puA, puB, puC])
  refine lin_step (i := 1) (d := some 20) (v := .int .i64 (A : Int)) rfl rfl (by kernel_rfl) (by kernel_rfl) rfl rfl (ord_value (by kernel_rfl) ?_) ?_
  · intro _ _ _; go_simp
  (try simp only [Act.put, puA, puB, puC])
  refine lin_step (i := 2) (d := some 21) (v := .int .i64 m) rfl rfl (by kernel_rfl) (by kernel_rfl) rfl rfl (ord_call (f := 142) (args := #[pageV p, .int .i64 (A : Int), .int .i64 2]) (by kernel_rfl) ?_ (fun _ W hS => (C2.out W).mono fun _ _ h => ⟨h.1, NgtS.call hS h.2⟩)) ?_
  · intro _; go_simp
  (try simp only [Act.put, puA, puB, puC])
  refine lin_step (i := 3) (d := some 22) (v := pageV p) rfl rfl (by kernel_rfl) (by kernel_rfl) rfl rfl (ord_page (by kernel_rfl) (.tmp 2) rfl rfl (fun _ _ hS => hS.1.page)) ?_
  (try simp only [Act.put, puA, puB, puC])
  refine lin_step (i := 4) (d := some 23) (v := .int .i64 (A : Int)) rfl rfl (by kernel_rfl) (by kernel_rfl) rfl rfl (ord_value (by kernel_rfl) ?_) ?_
  · intro _ _ _; go_simp
  (try simp only [Act.put, puA, puB, puC])
  refine lin_step (i := 5) (d := some 24) (v := .int .i64 ((A : Int) + 3)) rfl rfl (by kernel_rfl) (by kernel_rfl) rfl rfl (ord_value (by kernel_rfl) ?_) ?_
  · intro _ _ _; go_simp; rw [HW3.out]
  (try simp only [Act.put, puA, puB, puC])
  refine lin_step (i := 6) (d := some 25) (v := .int .i64 L) rfl rfl (by kernel_rfl) (by kernel_rfl) rfl rfl (ord_value (by kernel_rfl) ?_) ?_
  · intro _ _ _; go_simp
  (try simp only [Act.put, puA, puB, puC])
  refine lin_step (i := 7) (d := some 26) (v := .string t) rfl rfl (by kernel_rfl) (by kernel_rfl) rfl rfl (ord_call (f := 162) (args := #[pageV p, .int .i64 ((A : Int) + 3), .int .i64 L]) (by kernel_rfl) ?_ (fun _ W hS => (C3.out W).mono fun _ _ h => ⟨h.1, NgtS.call hS h.2⟩)) ?_
  · intro _; go_simp
  (try simp only [Act.put, puA, puB, puC])
  refine lin_step (i := 8) (d := some 27) (v := entV m t) rfl rfl (by kernel_rfl) (by kernel_rfl) rfl rfl (ord_value (by kernel_rfl) ?_) ?_
  · (intro _ _ _; unfold entV; go_simp) <;> rfl
  (try simp only [Act.put, puA, puB, puC])
  refine lin_turn (i := 9) (d := some 8) (fun u s => ∃ g, w.heap.size + 1 < g ∧ u = .pointer (some ⟨g, 0, none⟩) ∧ s = some (g, false)) rfl rfl (by kernel_rfl) (by kernel_rfl) rfl (by kernel_rfl) (⟨_, _, w.heap.size + 2, by omega, rfl, rfl⟩) (by kernel_rfl) (fun W hS => gives_to (v := .pointer (some ⟨W.heap.size, 0, none⟩)) (w' := W.alloc (.cells (entL 0 ⟨#[]⟩).toArray 41)) (by go_simp; rfl) ⟨some (W.heap.size, false), ⟨W.heap.size, hS.1.out.lt, rfl, rfl⟩, NgtS.alloc hS.1⟩) ?_
  rintro _ _ ⟨g, hg, rfl, rfl⟩
  (try simp only [Act.put, puA, puB, puC])
  refine lin_turn (i := 10) (d := none) (fun u s => u = undef ∧ s = some (g, true)) rfl rfl (by kernel_rfl) (by kernel_rfl) rfl (by kernel_rfl) (⟨_, _, rfl, rfl⟩) (by kernel_rfl) (fun W hS => gives_store_row entT hS.2.2 rfl rfl (entL_one m t) (.tmp 8) (.tmp 27) rfl rfl rfl ⟨some (g, true), ⟨rfl, rfl⟩, NgtS.put hS⟩) ?_
  rintro _ _ ⟨rfl, rfl⟩
  (try simp only [Act.put, puA, puB, puC])
  refine lin_done (by kernel_rfl) ?_
  intro W2 hS
  have S2 : Hid (NgtS w p m t (some (g, true)) W2) := Lib.hid hS
  clear hS S hg
  go_wp2_with fail
  refine wp_region_class (C := NgtS w p m t (some (g, true))) (by kernel_rfl) (NgtS.drew S2.out) ?_
  refine wpQuiet_row entT rfl (.tmp 8) rfl rfl (by kernel_rfl) (fun _ hC => hC.2.2) ?_
  (try simp only [Act.put, puA, puB, puC])
  refine wpQuiet_call 137 #[entV m t] (.bool true) (by kernel_rfl) (fun _ => by go_simp; rfl) (fun W hC => (HM.out W).mono fun _ _ h => ⟨h.1, NgtS.call hC h.2⟩) ?_
  (try simp only [Act.put, puA, puB, puC])
  refine wpQuiet_take (.bool false) (by kernel_rfl) ?_ ?_
  · (intro _ _; go_simp)
  (try simp only [Act.put, puA, puB, puC])
  refine wpQuiet_take (.bool false) (by kernel_rfl) ?_ ?_
  · (intro _ _; go_simp)
  (try simp only [Act.put, puA, puB, puC])
  refine wpQuiet_page (.tmp 2) rfl rfl (by kernel_rfl) (fun _ hC => hC.1.page) ?_
  (try simp only [Act.put, puA, puB, puC])
  refine wpQuiet_take (.int .i64 i) (by kernel_rfl) ?_ ?_
  · (intro _ _; go_simp)
  (try simp only [Act.put, puA, puB, puC])
  refine wpQuiet_row entT rfl (.tmp 8) rfl rfl (by kernel_rfl) (fun _ hC => hC.2.2) ?_
  (try simp only [Act.put, puA, puB, puC])
  refine wpQuiet_call 94 #[pageV p, .int .i64 i, entV m t] (pageV q) (by kernel_rfl) (fun _ => by go_simp; rfl) (fun W hC => (C4.out W).mono fun _ _ h => ⟨h.1, NgtS.call hC h.2⟩) ?_
  (try simp only [Act.put, puA, puB, puC])
  refine wpQuiet_page (.tmp 2) rfl rfl (by kernel_rfl) (fun _ hC => hC.1.page) ?_
  (try simp only [Act.put, puA, puB, puC])
  refine wpQuiet_take (.bool b) (by kernel_rfl) ?_ ?_
  · (intro w _; have hn := HN.out w; have hgd := fun x y => run_neGuard_page w x y q p; go_simp)
  (try simp only [Act.put, puA, puB, puC])
  refine wpQuiet_take (.bool b) (by kernel_rfl) ?_ ?_
  · (intro _ _; cases b <;> go_simp)
  (try simp only [Act.put, puA, puB, puC])
  refine wpQuiet_nil ?_
  intro W3 hC
  have S3 := Lib.hid hC
  clear hC S2
  cases b with
  | true =>
    have R3 : Hid (RowAt W3 g (entL m t)) := Lib.hid S3.out.2.2
    have B3 : Hid (NbxS w p W3) := Lib.hid S3.out.1
    go_wp2_with (first
      | ((with_reducible refine wpList_store_rw entT (vs := entL 0 ⟨#[]⟩) B3.out.out (entL_len _ _) (entL_len _ _) (entL_one _ _) rfl (.tmp 4) (.tmp 39) rfl rfl ?_ ?_); (exact rfl))
      | (with_reducible refine wpList_load_rw entT R3.out (entL_len _ _) rfl (.tmp 8) rfl rfl ?_))
    exact bodyPost_ret (results_row2 entT _ 4 5 rfl _ (B3.out.back _ _).1 rfl rfl rfl) rfl ⟨rfl, (B3.out.back _ _).2⟩
  | false =>
    have R3 : Hid (RowAt W3 g (entL m t)) := Lib.hid S3.out.2.2
    have B3 : Hid (NbxS w p W3) := Lib.hid S3.out.1
    go_wp2_with (first
      | ((with_reducible refine wpList_store_rw entT (vs := entL m t) B3.out.out (entL_len _ _) (entL_len _ _) (entL_one _ _) rfl (.tmp 4) (.tmp 40) rfl rfl ?_ ?_); (exact rfl))
      | (with_reducible refine wpList_load_rw entT R3.out (entL_len _ _) rfl (.tmp 8) rfl rfl ?_))
    exact bodyPost_ret (results_row2 entT _ 4 5 rfl _ (B3.out.back _ _).1 rfl rfl rfl) rfl ⟨rfl, (B3.out.back _ _).2⟩
end

section
open Dk (zeros zeros_length)
open Go.RowKit
theorem strOf_list (l : List UInt8) : (strOf l).data.toList = l := rfl
def putF (p : List UInt8) (i : Int) (n : Int) (s : List UInt8) : List UInt8 := if thereB i = true ∧ Nm.standB n s = true then Nm.lay p i.toNat (Nm.slot n s) else p
theorem there_nat {i : Int} (h : thereB i = true) : ∃ k : Nat, i = (k : Int) ∧ k < 4 := by
  have := of_decide_eq_true h
  exact ⟨i.toNat, by omega, by omega⟩
theorem put_far (p : List UInt8) (i n : Int) (s : ByteArray) (w : World) (hp : p.length = 64) (h : thereB i = false) :
    Calls Tryz.prog 94 #[pageV p, .int .i64 i, entV n s] w fun e w' => e = .returned (pageV p) ∧ Below w.heap.size w w' := by
  have hs := nputS_box w p n s hp
  rw [zeroCells_def] at hs
  have S := Lib.hid hs; clear hs
  have L := Lib.hid hp; clear hp
  have HT := Lib.hid (fun w => isThere_any i w)
  rw [h] at HT
  clear h
  unfold pageV entV
  go_enter Tryz.func94, Tryz.ntmps94
  go_wp2_with (first
    | (go_at_call 136; refine (HT.out _).mono ?_; rintro e w' ⟨rfl, rfl⟩)
    | (with_reducible refine wpList_load_page S.out.page rfl (.tmp 3) rfl rfl ?_)
    | ((with_reducible refine wpList_store_page S.out.out L.out rfl (.tmp 6) (.tmp 16) rfl rfl ?_ ?_); (exact rfl)))
  exact bodyPost_ret (results_page _ 6 rfl _ (S.out.back p L.out).1 rfl) rfl ⟨rfl, (S.out.back p L.out).2⟩
theorem put_wrong (p : List UInt8) (i n : Int) (s : ByteArray) (w : World) (hp : p.length = 64) (h : thereB i = true) (hn : Nm.standB n s.data.toList = false) (hm : s.size ≤ maxLen) :
    Calls Tryz.prog 94 #[pageV p, .int .i64 i, entV n s] w fun e w' => e = .returned (pageV p) ∧ Below w.heap.size w w' := by
  have hs := nputS_box w p n s hp
  rw [zeroCells_def] at hs
  have HS := Lib.hid hs; clear hs
  have L := Lib.hid hp; clear hp
  have HT := Lib.hid (fun w => isThere_any i w)
  rw [h] at HT
  have HM := Lib.hid (fun w => stand_any n s w hm)
  rw [hn] at HM
  clear h hn hm
  unfold pageV entV
  go_enter Tryz.func94, Tryz.ntmps94
  go_wp2_with (first
    | (go_at_call 136; refine (HT.out _).mono ?_; rintro e w' ⟨rfl, rfl⟩)
    | (go_at_call 137; refine (HM.out _).mono ?_; rintro e w2 ⟨rfl, hb⟩; have S := Lib.hid (HS.out.call hb); clear hb HS)
    | (with_reducible refine wpList_load_page S.out.page rfl (.tmp 3) rfl rfl ?_)
    | ((with_reducible refine wpList_store_page S.out.out L.out rfl (.tmp 6) (.tmp 16) rfl rfl ?_ ?_); (exact rfl)))
  exact bodyPost_ret (results_page _ 6 rfl _ (S.out.back p L.out).1 rfl) rfl ⟨rfl, (S.out.back p L.out).2⟩
theorem nput_any (p : List UInt8) (i n : Int) (s : ByteArray) (w : World) (hp : p.length = 64) (hm : s.size ≤ maxLen) :
    Calls Tryz.prog 94 #[pageV p, .int .i64 i, entV n s] w fun e w' => e = .returned (pageV (putF p i n s.data.toList)) ∧ Below w.heap.size w w' := by
  cases h : thereB i with
  | false =>
    unfold putF
    rw [if_neg (fun k => by rw [h] at k; cases k.1)]
    exact put_far p i n s w hp h
  | true =>
    cases hn : Nm.standB n s.data.toList with
    | false =>
      unfold putF
      rw [if_neg (fun k => by rw [hn] at k; cases k.2)]
      exact put_wrong p i n s w hp h hn hm
    | true =>
      unfold putF
      rw [if_pos ⟨h, hn⟩]
      obtain ⟨k, rfl, hk⟩ := there_nat h
      have := put_yes p (k : Int) (16 * k) n s w hp (by omega) (by omega) (by omega) hn hm
      rw [Int.toNat_natCast, ← Nm.put4_eq hp hk n (Nm.stand_bd hn).2.2]
      unfold Nm.put4 Nm.put3 Nm.put2 Nm.put1
      rw [size_list]
      exact this
def errI (o : Option (Int × List UInt8)) : Int := if o.isSome = true then 0 else 5
theorem get_at (p : List UInt8) (k : Nat) (w : World) (hp : p.length = 64) (hk : k < 4) :
    Calls Tryz.prog 132 #[pageV p, .int .i64 (k : Int)] w fun e w' => e = .returned (.tuple #[entV (Nm.entN (Nm.ent (Nm.at_ p k))) (strOf (Nm.entS (Nm.ent (Nm.at_ p k)))), .int .i64 (errI (Nm.ent (Nm.at_ p k)))]) ∧ Below w.heap.size w w' := by
  have hb := Nm.len_bd hp hk
  have hl : (strOf (Nm.name p k)).size ≤ maxLen := by
    rw [strOf_size]
    have := Nm.name_length hp k
    unfold maxLen
    omega
  have C1 := Lib.hid (fun w => get_any p (((16 * k : Nat) : Int) + 2) 1 w hp (by decide) (by decide))
  have C2 := Lib.hid (fun w => get_any p ((16 * k : Nat) : Int) 2 w hp (by decide) (by decide))
  have C3 := Lib.hid (fun w => text_any p (((16 * k : Nat) : Int) + 3) (Nm.len p k) w hp (by omega) (by omega))
  have HM := Lib.hid (fun w => stand_any (Nm.num p k) (strOf (Nm.name p k)) w hl)
  rw [strOf_list] at HM
  rw [Nm.ent_code hp hk]
  cases hs : Nm.standB (Nm.num p k) (Nm.name p k) with
  | false =>
    rw [if_neg (fun h => by cases h.1)]
    rw [hs] at HM
    exact get_bad p (k : Int) (16 * k) (Nm.len p k) (Nm.num p k) (strOf (Nm.name p k)) w hp (by omega) (by omega) (by omega) C1 C2 C3 HM
  | true =>
    rw [hs] at HM
    have hn : Nm.standB (Nm.num p k) (strOf (Nm.name p k)).data.toList = true := by rw [strOf_list]; exact hs
    have C4 := Lib.hid (fun w => put_yes p (k : Int) (16 * k) (Nm.num p k) (strOf (Nm.name p k)) w hp (by omega) (by omega) (by omega) hn hl)
    have he : Pg.setTextN (Pg.setN (Pg.setN (Pg.over p (16 * k) (Nm.zs 16)) (16 * k : Nat) 2 (Nm.num p k)) (((16 * k : Nat) : Int) + 2) 1 (strOf (Nm.name p k)).size) (((16 * k : Nat) : Int) + 3) (strOf (Nm.name p k)).data.toList = Nm.put4 p k (Nm.num p k) (Nm.name p k) := by
      rw [strOf_list, strOf_size]
      rfl
    rw [he] at C4
    have hq := Nm.put4_length hp hk (Nm.num p k) (Nm.name p k)
    have := get_other p (k : Int) (16 * k) (Nm.len p k) (Nm.num p k) (strOf (Nm.name p k)) (Nm.put4 p k (Nm.num p k) (Nm.name p k)) _ w hp (by omega) (by omega) (by omega) C1 C2 C3 HM C4 hq rfl
    by_cases hqp : Nm.put4 p k (Nm.num p k) (Nm.name p k) = p
    · rw [if_pos ⟨rfl, hqp⟩]
      rw [decide_eq_true hqp] at this
      exact this
    · rw [if_neg (fun h => hqp h.2)]
      rw [decide_eq_false hqp] at this
      exact this
end

section
open Dk (zeros zeros_length)
open Go.RowKit
theorem rows_page {W : World} {b : Nat} {p : List UInt8} (k : RowAt W b (byteVals p)) (hp : p.length = 64) : PageAt W b p where
  len := hp
  range := k.range
  free := by
    have := k.free
    rwa [byteVals_length, hp] at this
theorem page_rows {W : World} {b : Nat} {p : List UInt8} (k : PageAt W b p) : RowAt W b (byteVals p) where
  range := k.range
  free := by
    rw [byteVals_length, k.len]
    exact k.free
section
variable {ops : Array Oper} {rest : List Oper} {op : Oper} {a : Act} {Q : Act → Prop} {C : World → Prop}
end
end

section
open Dk (zeros zeros_length)
open Go.ChangeShapes Go.WideShapes Go.ChangeAt Go.RowKit
theorem entV_def (n : Int) (s : ByteArray) : Value.agg (entL n s).toArray = entV n s := rfl
end

section
open Dk (zeros zeros_length)
open Go.ChangeShapes Go.WideShapes Go.ChangeAt Go.RowKit Go.Maps
structure ManyAt (w : World) (A : Option Addr) (z : Nat) (rs : List (List Value)) : Prop where
  cells : 0 < rs.length → ∃ b off, A = some ⟨b, off, none⟩ ∧ b < w.heap.size ∧ ∀ i r, rs[i]? = some r → w.rangeAt b (off + i * z) r
theorem ManyAt.step {w w' : World} {A : Option Addr} {z : Nat} {rs : List (List Value)} (h : ManyAt w A z rs) (hb : Below w.heap.size w w') : ManyAt w' A z rs :=
  ⟨fun h0 => by
    obtain ⟨b, off, e, hlt, hc⟩ := h.cells h0
    exact ⟨b, off, e, Nat.lt_of_lt_of_le hlt hb.size, fun i r hi j v hv => (hb.cell (p := ⟨b, off + i * z + j, none⟩) hlt).trans (hc i r hi j v hv)⟩⟩
structure PagesIn (w : World) (A : Option Addr) (n : Nat) (ps : List (List UInt8)) : Prop where
  len : ps.length = n
  small : n ≤ maxLen
  size : ∀ p ∈ ps, p.length = 64
  rows : ManyAt w A 64 (ps.map byteVals)
def slots (p : List UInt8) : List (List UInt8) := [Nm.at_ p 0, Nm.at_ p 1, Nm.at_ p 2, Nm.at_ p 3]
def blocks (ps : List (List UInt8)) : List (List UInt8) := ps.flatMap slots
def okE (b : List UInt8) : Bool := (Nm.ent b).isSome
def allOk (bs : List (List UInt8)) : Bool := bs.all okE
def eL (b : List UInt8) : List Value := entL (Nm.entN (Nm.ent b)) (strOf (Nm.entS (Nm.ent b)))
theorem eL_length (b : List UInt8) : (eL b).length = 2 := rfl
theorem blocks_length (ps : List (List UInt8)) : (blocks ps).length = 4 * ps.length := by
  induction ps with
  | nil => rfl
  | cons p t ih => unfold blocks at ih ⊢; rw [List.flatMap_cons, List.length_append, ih, List.length_cons]; unfold slots; simp; omega
theorem eL_one (b : List UInt8) : ∀ v ∈ eL b, v.oneCell' = true := entL_one _ _
theorem slots_length (p : List UInt8) : (slots p).length = 4 := rfl
theorem slots_at (p : List UInt8) (j : Nat) (h : j < 4) : (slots p).take (j + 1) = (slots p).take j ++ [Nm.at_ p j] := by
  have : j = 0 ∨ j = 1 ∨ j = 2 ∨ j = 3 := by omega
  rcases this with rfl | rfl | rfl | rfl <;> rfl
theorem blocks_more (ps : List (List UInt8)) (k : Nat) (p : List UInt8) (h : ps[k]? = some p) : blocks (ps.take (k + 1)) = blocks (ps.take k) ++ slots p := by
  obtain ⟨hk, he⟩ := List.getElem?_eq_some_iff.1 h
  rw [List.take_succ_eq_append_getElem hk, he]
  unfold blocks
  rw [List.flatMap_append]
  simp
theorem allOk_app (a b : List (List UInt8)) : allOk (a ++ b) = (allOk a && allOk b) := by unfold allOk; rw [List.all_append]
theorem allOk_no (ps : List (List UInt8)) (k : Nat) (p : List UInt8) (h : ps[k]? = some p) (j : Nat) (hj : j < 4) (hb : okE (Nm.at_ p j) = false) : allOk (blocks ps) = false := by
  cases hc : allOk (blocks ps) with
  | false => rfl
  | true =>
    exfalso
    have hm : Nm.at_ p j ∈ blocks ps := by
      unfold blocks
      rw [List.mem_flatMap]
      refine ⟨p, List.mem_of_getElem? h, ?_⟩
      have : j = 0 ∨ j = 1 ∨ j = 2 ∨ j = 3 := by omega
      rcases this with rfl | rfl | rfl | rfl <;> simp [slots]
    have := List.all_eq_true.1 hc _ hm
    rw [hb] at this
    cases this
theorem info_ent : (Tryz.prog.info? 41).map (fun i => (i.zero, i.size, i.bytes)) = some (some (.agg #[.int .i64 0, .string ⟨#[]⟩]), 2, 24) := by kernel_rfl
theorem owns_below {w w' : World} {base : Nat} {e : TypeId} {size : Nat} {v : Value} {n : Nat} {xs : List Value} (h : w.ownsRow base e size v n xs) (hb : Below w.heap.size w w') : w'.ownsRow base e size v n xs := by
  refine ⟨h.1, ?_⟩
  rcases h.2 with h2 | ⟨g, cap, cur, h1, h2, h3, h4⟩
  · exact Or.inl h2
  · exact Or.inr ⟨g, cap, cur, h1, h2, (hb.block g (Array.getElem?_eq_some_iff.1 h3).1).trans h3, h4⟩
theorem nowns_slice {w : World} {base : Nat} {e : TypeId} {size : Nat} {v : Value} {k : Nat} {xs : List Value} (h : w.ownsRow base e size v k xs) : ∃ A c, v = .slice A k c := by
  rcases h.2 with ⟨e1, e2⟩ | ⟨g, cap, cur, e1, _⟩
  · exact ⟨none, 0, by rw [e1, e2]⟩
  · exact ⟨_, _, e1⟩
theorem ncell_new (w : World) (vs : List Value) (t : TypeId) : ∀ j u, vs[j]? = some u → (w.alloc (.cells vs.toArray t)).cell? ((⟨w.heap.size, 0, none⟩ : Addr).add j) = some u := fun j u hj => by
  have := (rowAt_new w vs t).range j u hj
  rw [Nat.zero_add] at this
  unfold Addr.add
  by_cases e : j = 0
  · subst e; rw [if_pos rfl]; exact this
  · rw [if_neg e, Nat.zero_add]; exact this
theorem nwpList_load_at {t : TypeId} {n : Nat} (ht : RowT t n) {ops : Array Oper} {rest : List Oper} {op : Oper} {a : Act} {Q : Exit → Act → World → Prop} {w : World} {b o : Nat} {vs : List Value} (hr : w.rangeAt b o vs) (hl : vs.length = n) (hgd : op.guard = none) (x : Operand) (ho : op.op = .load t x)
    (hx : a.eval x = .pointer (some ⟨b, o, none⟩)) (h : wpList Tryz.prog ops Q rest (a.put op.dst (.agg vs.toArray)) w) : wpList Tryz.prog ops Q (op :: rest) a w := by
  obtain ⟨d, hd, hrow⟩ := ht.row
  exact wpList_load_mid hgd t x ho b o hx vs d hr hd hrow (by rw [ht.info, hl]) h
theorem run_one (n : Int) (s : ByteArray) (w : World) : (Instr.buildSlice 36 1 #[(0, entV n s)]).run Tryz.prog w = .ok (.slice (some ⟨w.heap.size, 0, none⟩) 1 1) (w.alloc (.cells (entL n s).toArray 41)) := by
  unfold entV entL
  go_simp
theorem exec_one {ρ : Operand → Value} {op : Oper} {y : Operand} {n : Int} {s : ByteArray} {w : World} (ho : op.op = .buildSlice 36 1 #[(0, y)]) (hy : ρ y = entV n s) :
    (execOp ρ op).run Tryz.prog w = .ok (.value (.slice (some ⟨w.heap.size, 0, none⟩) 1 1)) (w.alloc (.cells (entL n s).toArray 41)) := by
  have hr := run_one n s w
  unfold execOp
  simp only [ho, List.map_toArray, List.map_cons, List.map_nil, hy, Sem.run_bind, hr, Result.andThen_ok, Sem.run_pure]
theorem wpList_one {ops : Array Oper} {rest : List Oper} {op : Oper} {a : Act} {Q : Exit → Act → World → Prop} {w : World} {b : List UInt8} (hgd : op.guard = none) (y : Operand) (ho : op.op = .buildSlice 36 1 #[(0, y)]) (hy : a.eval y = .agg (eL b).toArray)
    (h : wpList Tryz.prog ops Q rest (a.put op.dst (.slice (some ⟨w.heap.size, 0, none⟩) 1 1)) (w.alloc (.cells (eL b).toArray 41))) : wpList Tryz.prog ops Q (op :: rest) a w :=
  wpList_plain hgd fun _ hK => by
    unfold Oper.wp
    rw [exec_one ho (hy.trans (entV_def _ _))]
    exact hK _ _ h
theorem pageT : RowT 97 64 := ⟨⟨_, Tryz.underlying97, rfl⟩, by kernel_rfl⟩
structure AlS (w0 : World) (A : Option Addr) (n : Nat) (ps : List (List UInt8)) (l : Value) (bs : List (List UInt8)) (W : World) : Prop where
  pages : PagesIn W A n ps
  far : 0 < n → ∀ b off, A = some ⟨b, off, none⟩ → b < w0.heap.size
  own : W.ownsRow w0.heap.size 41 2 l bs.length (bs.flatMap eL)
  bel : Below w0.heap.size w0 W
theorem PagesIn.step {w w' : World} {A : Option Addr} {n : Nat} {ps : List (List UInt8)} (h : PagesIn w A n ps) (hb : Below w.heap.size w w') : PagesIn w' A n ps := ⟨h.len, h.small, h.size, h.rows.step hb⟩
theorem AlS.call {w0 : World} {A : Option Addr} {n : Nat} {ps : List (List UInt8)} {l : Value} {bs : List (List UInt8)} {W W' : World} (k : AlS w0 A n ps l bs W) (hb : Below W.heap.size W W') : AlS w0 A n ps l bs W' :=
  ⟨k.pages.step hb, k.far, owns_below k.own hb, k.bel.trans (hb.mono k.bel.size)⟩
theorem AlS.grow {w0 : World} {A : Option Addr} {n : Nat} {ps : List (List UInt8)} {l l' : Value} {bs : List (List UInt8)} {b : List UInt8} {W W' : World} (k : AlS w0 A n ps l bs W) (hg : W.grownBy W' l.ownBlock) (hown : W'.ownsRow w0.heap.size 41 2 l' (bs.length + 1) (bs.flatMap eL ++ eL b)) : AlS w0 A n ps l' (bs ++ [b]) W' where
  pages := ⟨k.pages.len, k.pages.small, k.pages.size, ⟨fun h0 => by
    obtain ⟨g, off, e, hlt, hc⟩ := k.pages.rows.cells h0
    have hgl := k.far (by rw [List.length_map, k.pages.len] at h0; exact h0) g off e
    refine ⟨g, off, e, Nat.lt_of_lt_of_le hlt hg.size, fun i r hi j v hv => ?_⟩
    have hne : some g ≠ l.ownBlock := fun q => by have := (k.own.lt g q.symm).1; omega
    have hblk := hg.block g hlt hne
    have := hc i r hi j v hv
    rw [← this]
    exact World.cell?_of_block (a := ⟨g, off + i * 64 + j, none⟩) hblk⟩⟩
  far := k.far
  own := by
    rw [List.flatMap_append, List.length_append]
    simpa using hown
  bel := k.bel.grown hg k.bel.size (fun j hj => (k.own.lt j hj).1)
structure AlP (w0 : World) (A : Option Addr) (n : Nat) (ps : List (List UInt8)) (l : Value) (bs : List (List UInt8)) (B : Nat) (p : List UInt8) (W : World) : Prop where
  al : AlS w0 A n ps l bs W
  page : PageAt W B p
  ne : l.ownBlock ≠ some B
theorem AlP.call {w0 : World} {A : Option Addr} {n : Nat} {ps : List (List UInt8)} {l : Value} {bs : List (List UInt8)} {B : Nat} {p : List UInt8} {W W' : World} (k : AlP w0 A n ps l bs B p W) (hb : Below W.heap.size W W') : AlP w0 A n ps l bs B p W' := ⟨k.al.call hb, k.page.step hb, k.ne⟩
theorem AlP.grow {w0 : World} {A : Option Addr} {n : Nat} {ps : List (List UInt8)} {l l' : Value} {bs : List (List UInt8)} {b : List UInt8} {B : Nat} {p : List UInt8} {W W' : World} (k : AlP w0 A n ps l bs B p W) (hg : W.grownBy W' l.ownBlock) (hown : W'.ownsRow w0.heap.size 41 2 l' (bs.length + 1) (bs.flatMap eL ++ eL b)) (hloc : l'.ownBlock = l.ownBlock ∨ l'.ownBlock = some W.heap.size) : AlP w0 A n ps l' (bs ++ [b]) B p W' where
  al := k.al.grow hg hown
  page := rows_page (by
    have hB := k.page.lt
    have hblk := hg.block B hB (Ne.symm k.ne)
    refine ⟨fun j v hv => ?_, fun j hj => ?_⟩
    · have := (page_rows k.page).range j v hv
      rw [← this]
      exact World.cell?_of_block (a := ⟨B, 0 + j, none⟩) hblk
    · have := (page_rows k.page).free j hj
      rw [World.cell?_of_block (a := ⟨B, 0 + j, none⟩) hblk, World.frozen?_of_block (a := ⟨B, 0 + j, none⟩) hblk]
      exact this) k.page.len
  ne := by
    rcases hloc with e | e
    · rw [e]; exact k.ne
    · rw [e]
      intro q
      injection q with q
      have := k.page.lt
      omega
theorem AlP.start {w0 : World} {A : Option Addr} {n : Nat} {ps : List (List UInt8)} {l : Value} {bs : List (List UInt8)} {p : List UInt8} {W W2 : World} (k : AlS w0 A n ps l bs W) (hb : Below W.heap.size W W2) (hp : PageAt W2 W.heap.size p) : AlP w0 A n ps l bs W.heap.size p W2 :=
  ⟨k.call hb, hp, fun q => by have := (k.own.lt _ q).2; omega⟩
end

section
open Dk (zeros zeros_length)
open Go.RowKit Go.Maps
def AllGive (ps : List (List UInt8)) (w : World) (e : Ending) (w' : World) : Prop :=
  if allOk (blocks ps) = true then ∃ A c, e = .returned (.tuple #[.slice A (blocks ps).length c, .int .i64 0]) ∧ w'.ownsRow w.heap.size 41 2 (.slice A (blocks ps).length c) (blocks ps).length ((blocks ps).flatMap eL) ∧ Below w.heap.size w w'
  else e = .returned (.tuple #[.slice none 0 0, .int .i64 5]) ∧ Below w.heap.size w w'
theorem alS_start (w : World) (A : Option Addr) (n : Nat) (ps : List (List UInt8)) (h : PagesIn w A n ps) (hf : 0 < n → ∀ b off, A = some ⟨b, off, none⟩ → b < w.heap.size) : AlS w A n ps (.slice none 0 0) [] w :=
  ⟨h, hf, ⟨rfl, Or.inl ⟨rfl, rfl⟩⟩, Below.refl _ _⟩
theorem give_none {ps : List (List UInt8)} {w : World} (h : allOk (blocks ps) = false) (w' : World) (hb : Below w.heap.size w w') : AllGive ps w (.returned (.tuple #[.slice none 0 0, .int .i64 5])) w' := by
  unfold AllGive
  rw [if_neg (by rw [h]; decide)]
  exact ⟨rfl, hb⟩
theorem give_all {A0 : Option Addr} {n : Nat} {ps : List (List UInt8)} {w w' : World} {A : Option Addr} {m c : Nat} (h : allOk (blocks ps) = true) (hm : m = (blocks ps).length) (hS : AlS w A0 n ps (.slice A m c) (blocks ps) w') : AllGive ps w (.returned (.tuple #[.slice A m c, .int .i64 0])) w' := by
  unfold AllGive
  rw [if_pos h]
  subst hm
  exact ⟨A, c, rfl, hS.own, hS.bel⟩
theorem all_any (A : Option Addr) (n c : Nat) (ps : List (List UInt8)) (w : World) (hin : PagesIn w A n ps) (hf : 0 < n → ∀ b off, A = some ⟨b, off, none⟩ → b < w.heap.size) (hn : n ≤ 40) :
    Calls Tryz.prog 90 #[.slice A n c] w (AllGive ps w) := by
  have S0 := Lib.hid (alS_start w A n ps hin hf)
  have HL := Lib.hid hin.len
  have HZ := Lib.hid hin.size
  obtain ⟨i0, hi0, hz0, hs0, hb0⟩ := info_parts info_ent
  have HI0 := Lib.hid hi0
  have HZ0 := Lib.hid hz0
  have HS0 := Lib.hid hs0
  have HB0 := Lib.hid hb0
  clear hin hf hi0 hz0 hs0 hb0
  go_enter Tryz.func90, Tryz.ntmps90
  go_wp2_with fail
  go_loopw [4, 12] (fun l x wr => ∃ (k : Nat) (A' : Option Addr) (m c' : Nat), k ≤ n ∧ x = .int .i64 (k : Int) ∧ l = .slice A' m c' ∧ Hid (m = (blocks (ps.take k)).length) ∧ Hid (AlS w A n ps (.slice A' m c') (blocks (ps.take k)) wr) ∧ Hid (allOk (blocks (ps.take k)) = true)) (fun _ x _ => n - (intOf x).toNat)
  case atStart => exact ⟨0, none, 0, 0, Nat.zero_le _, rfl, rfl, Lib.hid rfl, S0, Lib.hid rfl⟩
  case round =>
    clear S0
    obtain ⟨k, A', m, c', hk, rfl, rfl, HM, S, HO⟩ := hrel
    rename World => wo
    by_cases hlt : k < n
    · obtain ⟨b, off, hA, hb, hc⟩ := S.out.pages.rows.cells (by rw [List.length_map, HL.out]; omega)
      obtain ⟨p, hp⟩ : ∃ p, ps[k]? = some p := ⟨_, List.getElem?_eq_getElem (by rw [HL.out]; exact hlt)⟩
      have HP := Lib.hid (hc k (byteVals p) (by rw [List.getElem?_map, hp]; rfl))
      have HPL := Lib.hid (HZ.out p (List.mem_of_getElem? hp))
      have HBL := Lib.hid (show (byteVals p).length = 64 by rw [byteVals_length, HPL.out])
      have HMore := Lib.hid (blocks_more ps k p hp)
      have HNo := Lib.hid (fun j hj => allOk_no ps k p hp j hj)
      subst hA
      have hk0 : (0 : Int) ≤ (k : Int) := by omega
      have hk1 : (k : Int) < (n : Int) := by omega
      clear hc hp hb
      have HLen : Hid ((blocks (ps.take k)).length ≤ 160) := Lib.hid (by rw [blocks_length, List.length_take]; omega)
      generalize blocks (ps.take k) = bs at HM S HO HMore HLen
      go_wp2_with (first
        | ((with_reducible refine nwpList_load_at pageT HP.out HBL.out rfl (.tmp 14) rfl ?_ ?_); (exact rfl))
        | ((with_reducible refine wpList_store_new (p := p) rfl (.tmp 6) (.tmp 15) rfl rfl ?_ ?_ HPL.out ?_); (exact rfl); (exact rfl); intro W2 hP hB2 hz2; have P := Lib.hid (AlP.start S.out hB2 hP); clear hP hB2 hz2 S; generalize wo.heap.size = B at P ⊢))
      go_loopw [4, 16] (fun l x wr => ∃ (j : Nat) (A' : Option Addr) (m c' : Nat), j ≤ 4 ∧ x = .int .i64 (j : Int) ∧ l = .slice A' m c' ∧ Hid (m = (bs ++ (slots p).take j).length) ∧ Hid (AlP w (some ⟨b, off, none⟩) n ps (.slice A' m c') (bs ++ (slots p).take j) B p wr) ∧ Hid (allOk (bs ++ (slots p).take j) = true)) (fun _ x _ => 4 - (intOf x).toNat)
      case atStart => exact ⟨0, A', m, c', by omega, rfl, rfl, Lib.hid (by rw [HM.out]; simp), Lib.hid (by simpa using P.out), Lib.hid (by simpa using HO.out)⟩
      case round =>
        clear P HM HO
        obtain ⟨j, A1, m1, c1, hj, rfl, rfl, HM, P, HO⟩ := hrel
        by_cases hj4 : j < 4
        · have HG := Lib.hid (fun w => get_at p j w HPL.out hj4)
          have HAt := Lib.hid (slots_at p j hj4)
          have HNo2 := Lib.hid (HNo.out j hj4)
          generalize Nm.at_ p j = blk at HG HAt HNo2
          change Hid (∀ w, Calls Tryz.prog 132 #[pageV p, .int .i64 (j : Int)] w fun e w' => e = .returned (.tuple #[.agg (eL blk).toArray, .int .i64 (errI (Nm.ent blk))]) ∧ Below w.heap.size w w') at HG
          have hj0 : (0 : Int) ≤ (j : Int) := by omega
          have hj1 : (j : Int) < 4 := by omega
          have hm1 : m1 ≤ 170 := by
            have h1 := HLen.out
            have h2 : ((slots p).take j).length ≤ 4 := by rw [List.length_take, slots_length]; omega
            rw [HM.out, List.length_append]
            omega
          cases hok : okE blk with
          | true =>
            have he : errI (Nm.ent blk) = 0 := by unfold errI; rw [show (Nm.ent blk).isSome = true from hok]; rfl
            rw [he] at HG
            have HOK := Lib.hid hok
            clear he hok
            go_wp2_with (first
              | (with_reducible refine wpList_load_page P.out.page rfl (.tmp 6) rfl rfl ?_)
              | (go_at_call 132; (with_reducible refine (HG.out _).mono ?_); rintro e w3 ⟨rfl, hb⟩; replace P := Lib.hid (P.out.call hb); clear hb)
              | ((with_reducible refine wpList_store_newrow entT (vs := eL blk) (eL_length _) (eL_one _) rfl (.tmp 8) (.tmp 23) rfl rfl ?_ ?_ ?_); (exact rfl); (exact rfl); intro W4 hP hb hz; have R := Lib.hid hP; replace P := Lib.hid (P.out.call hb); clear hP hb hz; generalize w3.heap.size = G at R ⊢)
              | (with_reducible refine wpList_load_rw entT R.out (eL_length _) rfl (.tmp 8) rfl rfl ?_)
              | ((with_reducible refine wpList_one (b := blk) rfl (.tmp 29) rfl ?_ ?_); (exact rfl); have HNW := Lib.hid (ncell_new W4 (eL blk) 41); have HBel : Hid (Below W4.heap.size W4 (W4.alloc (.cells (eL blk).toArray 41))) := Lib.hid ((Below.refl _ _).alloc (Nat.le_refl _) _); replace P := Lib.hid (P.out.call HBel.out); have HSZ : Hid (w.heap.size ≤ (W4.alloc (.cells (eL blk).toArray 41)).heap.size) := Lib.hid P.out.al.bel.size; have HOwn := Lib.hid P.out.al.own; rw [← HM.out] at HOwn; clear HBel; generalize W4.heap.size = E at HNW ⊢; generalize W4.alloc (.cells (eL blk).toArray 41) = W5 at HNW P HSZ HOwn ⊢)
              | (at_builtin; go_must (refine wpList_append_own_at _ rfl (.tmp 28) (.tmp 30) 36 rfl w.heap.size 41 i0 _ 2 24 Tryz.underlying36 HI0.out HZ0.out HS0.out HB0.out rfl (by omega) _ m1 _ rfl HOwn.out ⟨E, 0, none⟩ 1 1 (eL blk) rfl rfl HNW.out (eL_one _) (by unfold maxLen; omega) (by omega) HSZ.out ?_); intro v' w5 hown' hgrow hnil hloc; obtain ⟨A', c', rfl⟩ := nowns_slice hown'))
            have P3 := Lib.hid (P.out.grow hgrow (b := blk) (by rw [← HM.out]; exact hown') hloc)
            have HM3 : Hid (m1 + 1 = (bs ++ (slots p).take (j + 1)).length) := Lib.hid (by rw [HAt.out, ← List.append_assoc, List.length_append, ← HM.out]; rfl)
            have HO3 : Hid (allOk (bs ++ (slots p).take (j + 1)) = true) := Lib.hid (by rw [HAt.out, ← List.append_assoc, allOk_app, HO.out]; simp [allOk, HOK.out])
            rw [List.append_assoc, ← HAt.out] at P3
            clear hown' hgrow hnil hloc P HM HO
            go_roundw
            case rel => exact ⟨j + 1, A', m1 + 1, c', by omega, by go_num, rfl, HM3, P3, HO3⟩
            case measure => simp [intOf]; omega
          | false =>
            have he : errI (Nm.ent blk) = 5 := by unfold errI; rw [show (Nm.ent blk).isSome = false from hok]; rfl
            rw [he] at HG
            have HF := Lib.hid (give_none (w := w) (HNo2.out hok))
            clear he hok
            go_wp2_with (first
              | (with_reducible refine wpList_load_page P.out.page rfl (.tmp 6) rfl rfl ?_)
              | (go_at_call 132; (with_reducible refine (HG.out _).mono ?_); rintro e w3 ⟨rfl, hb⟩; replace P := Lib.hid (P.out.call hb); clear hb)
              | ((with_reducible refine wpList_store_newrow entT (vs := eL blk) (eL_length _) (eL_one _) rfl (.tmp 8) (.tmp 23) rfl rfl ?_ ?_ ?_); (exact rfl); (exact rfl); intro W4 hP hb hz; replace P := Lib.hid (P.out.call hb); clear hP hb hz; generalize w3.heap.size = G))
            go_ret2
            exact HF.out _ P.out.al.bel
        · obtain rfl : j = 4 := by omega
          have HB4 : Hid (bs ++ (slots p).take 4 = blocks (ps.take (k + 1))) := Lib.hid (by rw [HMore.out]; rfl)
          rw [HB4.out] at HM P HO
          have S3 := Lib.hid P.out.al
          clear P
          go_wp2
          go_roundw
          case rel => exact ⟨k + 1, A1, m1, c1, by omega, by go_num, rfl, HM, S3, HO⟩
          case measure => simp [intOf]; omega
    · obtain rfl : k = n := by omega
      have e : ps.take k = ps := List.take_of_length_le (by rw [HL.out]; exact Nat.le_refl _)
      rw [e] at HM S HO
      have HF := Lib.hid (give_all HO.out HM.out S.out)
      clear e HM S HO hlt
      go_wp2
      go_ret2
      exact HF.out
end

section
open Go.RowKit Go.Maps
open Dk (zeros zeros_length)
open Ii (Ino)
open Dm (Has Ent)
def DS (w : World) (V : Nat) (b : Blk) (k : Nat) (E : List Ent) (H : Has) : Prop := ∃ s x u P, VolAt w V b s 300 4 0 ∧ Calm s 300 4 k ∧ Dm.Dr 300 4 (nv s) x u P E H
theorem DS.below {w w' : World} {V : Nat} {b : Blk} {k : Nat} {E : List Ent} {H : Has} (h : DS w V b k E H) (hb : Below w.heap.size w w') : DS w' V b k E H := by
  obtain ⟨s, x, u, P, h1, h2, h3⟩ := h
  exact ⟨s, x, u, P, h1.below hb, h2, h3⟩
theorem DS.only {w w' : World} {V : Nat} {b : Blk} {k : Nat} {E : List Ent} {H : Has} {L : List Nat} (h : DS w V b k E H) (ho : Only L w w') (hL : ∀ i ∈ L, i ∉ V :: b.all) : DS w' V b k E H := by
  obtain ⟨s, x, u, P, h1, h2, h3⟩ := h
  exact ⟨s, x, u, P, h1.only ho (fun q => hL V q (by simp)) (fun i hi q => hL i q (List.mem_cons_of_mem _ hi)), h2, h3⟩
theorem DS.more {w : World} {V : Nat} {b : Blk} {k k' : Nat} {E : List Ent} {H : Has} (h : DS w V b k E H) (hk : k ≤ k') : DS w V b k' E H := by
  obtain ⟨s, x, u, P, h1, h2, h3⟩ := h
  exact ⟨s, x, u, P, h1, ⟨h2.vs, h2.idle, by have := h2.q; omega, h2.lim⟩, h3⟩
theorem DS.ok {w : World} {V : Nat} {b : Blk} {k : Nat} {E : List Ent} {H : Has} (h : DS w V b k E H) : Dm.Ok E H := by
  obtain ⟨s, x, u, P, h1, h2, h3⟩ := h
  exact h3.ok
theorem DS.lt {w : World} {V : Nat} {b : Blk} {k : Nat} {E : List Ent} {H : Has} (h : DS w V b k E H) : ∀ i ∈ V :: b.all, i < w.heap.size := by
  obtain ⟨s, x, u, P, h1, h2, h3⟩ := h
  intro i hi
  rcases List.mem_cons.1 hi with rfl | hi
  · exact h1.row.lt
  · exact h1.store.lt i hi
abbrev HasI (w : World) (b : Nat) (H : Has) : Prop := HasAt Tryz.prog 9 3 (fun n => .int .i64 n) (fun n => (Lit.int .i64 n).wf = true) w b H
abbrev HasB (w : World) (b : Nat) (H : Has) : Prop := HasAt Tryz.prog 9 4 (fun n => .bool (decide (n ≠ 0))) (fun _ => True) w b H
theorem pvI : PlainV Tryz.prog 3 (fun n => .int .i64 n) (fun n => .int .i64 n) (fun n => (Lit.int .i64 n).wf = true) := plain_int Tryz.underlying3 (fun _ => by kernel_rfl)
theorem pvB : PlainV Tryz.prog 4 (fun n => .bool (decide (n ≠ 0))) (fun n => .bool (decide (n ≠ 0))) (fun _ => True) := plain_bool Tryz.underlying4 (fun _ => by kernel_rfl)
structure EntRow (w : World) (A : Option Addr) (n : Nat) (L : List Ent) : Prop where
  len : L.length = n
  cells : 0 < n → ∃ b off, A = some ⟨b, off, none⟩ ∧ b < w.heap.size ∧ ∀ i e, L[i]? = some e → w.rangeAt b (off + i * 2) (entL e.1 (strOf e.2))
theorem EntRow.only {w w' : World} {A : Option Addr} {n : Nat} {L : List Ent} {l : List Nat} (h : EntRow w A n L) (ho : Only l w w') (hl : 0 < n → ∀ k ∈ l, ∀ b off, A = some ⟨b, off, none⟩ → b ≠ k) : EntRow w' A n L :=
  ⟨h.len, fun h0 => by
    obtain ⟨b, off, e, hlt, hc⟩ := h.cells h0
    exact ⟨b, off, e, Nat.lt_of_lt_of_le hlt ho.size, fun i c hi => rangeAt_block (hc i c hi) (ho.block b hlt (fun q => hl h0 b q b off e rfl))⟩⟩
theorem EntRow.below {w w' : World} {A : Option Addr} {n : Nat} {L : List Ent} (h : EntRow w A n L) (hb : Below w.heap.size w w') : EntRow w' A n L :=
  ⟨h.len, fun h0 => by
    obtain ⟨b, off, e, hlt, hc⟩ := h.cells h0
    exact ⟨b, off, e, Nat.lt_of_lt_of_le hlt hb.size, fun i c hi => rangeAt_block (hc i c hi) (hb.block _ hlt)⟩⟩
def newE (o : Dop) (E : List Ent) (H : Has) : List Ent := if Dm.want o.k o.name H = 0 then Dm.nextE o.k o.name o.to E else E
def newH (o : Dop) (H : Has) : Has := if Dm.want o.k o.name H = 0 then Dm.nextH o.k o.name o.to H else H
def DoSpec : Prop := ∀ (W : World) (V : Nat) (b : Blk) (k : Nat) (E : List Ent) (H : Has) (o : Dop), DS W V b k E H → k ≤ 1000 → E.length ≤ 140 → o.ino = 1 → 0 ≤ o.k → o.k ≤ 2 → 1 ≤ o.to → o.to ≤ 200 → o.name.length ≤ 300 → o.text.length ≤ 200 →
  Calls Tryz.prog 9 #[.pointer (some ⟨V, 0, none⟩), dopV o] W fun e w' => e = .returned (.int .i64 (Dm.want o.k o.name H)) ∧ DS w' V b (k + 1) (newE o E H) (newH o H) ∧ Only (V :: b.all) W w'
def AllSpec : Prop := ∀ (W : World) (V : Nat) (b : Blk) (k : Nat) (E : List Ent) (H : Has), DS W V b k E H → k ≤ 1000 →
  Calls Tryz.prog 10 #[.pointer (some ⟨V, 0, none⟩), .int .i64 1] W fun e w' => ∃ A c, e = .returned (.tuple #[.slice A (Dm.live E).length c, .int .i64 0]) ∧ EntRow w' A (Dm.live E).length (Dm.live E) ∧ DS w' V b (k + 1) E H ∧ Only (V :: b.all) W w'
theorem Only.fresh {L : List Nat} {w0 w w' : World} {B : Nat} (h : Only L w0 w) (k : Only [B] w w') (hB : w0.heap.size ≤ B) : Only L w0 w' :=
  ⟨k.os.trans h.os, k.tape.trans h.tape, k.output.trans h.output, Nat.le_trans h.size k.size, fun i hi hn => (k.block i (Nat.lt_of_lt_of_le hi h.size) (by simp; omega)).trans (h.block i hi hn)⟩
theorem bytes_strOf (l : List UInt8) : (strOf l).data.toList = l := by simp [strOf]
theorem ok_want {o : Dop} {E : List Ent} {H : Has} (h : Dm.Ok E H) (K : Nat) (hE : E.length ≤ K + 3) (hH : H.length ≤ K) : (newE o E H).length ≤ K + 4 ∧ (newH o H).length ≤ K + 1 := by
  unfold newE newH
  split
  · exact ⟨Dm.nextE_few h _ _ _ K hE hH, Dm.nextH_few h.once _ _ _ K hH⟩
  · exact ⟨by omega, by omega⟩
theorem ok_new {o : Dop} {E : List Ent} {H : Has} (h : Dm.Ok E H) (h0 : 1 ≤ o.to) (h1 : o.to ≤ 200) : Dm.Ok (newE o E H) (newH o H) := by
  unfold newE newH
  by_cases q : Dm.want o.k o.name H = 0
  · rw [if_pos q, if_pos q]
    exact Dm.next_ok h h0 (by omega) q
  · rw [if_neg q, if_neg q]
    exact h
theorem ent_size {E : List Ent} {H : Has} (h : Dm.Ok E H) {e : Ent} (he : e ∈ Dm.live E) : (strOf e.2).size ≤ maxLen := by
  have := (Nm.stand_bd (h.st e (List.mem_filter.1 he).1)).2.2
  rw [strOf_size]
  unfold maxLen
  omega
end
end Go.Proofs.YtmpfcgjjejlhdaaGreat
