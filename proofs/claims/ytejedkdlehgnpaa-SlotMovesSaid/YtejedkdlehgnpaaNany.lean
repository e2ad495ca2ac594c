/-
  The contract of strings.ContainsAny at the two bytes that no name has: any text of at most thirteen bytes; what one sign of a text covers.
-/
import Derived.Test.YtejedkdlehgnpaaNlib
import Derived.Lib.DecodeN
import Derived.Lib.IndexAny
namespace Go.Proofs.Ytejedkdlehgnpaa
open Go.RowKit Go.Shelf

theorem far_any (r : Int) (w : World) (h1 : 128 ≤ r) (hv : Utf8.valid r = true) : Calls Try.prog 29 #[.string ⟨#[0, 47]⟩, .int .i32 r] w fun e w' => e = .returned (.int .i64 (-1)) ∧ Below w.heap.size w w' := by
  by_cases h2 : r = 65533
  · subst h2; exact far_error w
  · have hf := encode_facts r hv h1
    by_cases h3 : 3 ≤ (Utf8.encode r).size
    · exact far_long r w h1 h2 hv h3
    · exact far_two r w h1 h2 hv (by omega)

theorem size_list (s : ByteArray) : s.data.toList.length = s.size := by simp
/-! ### a sign that begins beyond the seven bits -/
theorem decodeN_far (n b0 b1 b2 b3 : Nat) (h0 : 128 ≤ b0) :
    128 ≤ (Lib.decodeN n b0 b1 b2 b3).1 ∧ ((Lib.decodeN n b0 b1 b2 b3).1 < 55296 ∨ (57344 ≤ (Lib.decodeN n b0 b1 b2 b3).1 ∧ (Lib.decodeN n b0 b1 b2 b3).1 ≤ 1114111)) ∧ 1 ≤ (Lib.decodeN n b0 b1 b2 b3).2 ∧ (Lib.decodeN n b0 b1 b2 b3).2 ≤ 4 ∧
    (2 ≤ (Lib.decodeN n b0 b1 b2 b3).2 → 128 ≤ b1 ∧ 1 < n) ∧ (3 ≤ (Lib.decodeN n b0 b1 b2 b3).2 → 128 ≤ b2 ∧ 2 < n) ∧ (4 ≤ (Lib.decodeN n b0 b1 b2 b3).2 → 128 ≤ b3 ∧ 3 < n) := by
  unfold Lib.decodeN
  repeat' split
  all_goals (simp only; omega)
theorem get_list (s : ByteArray) (i : Nat) (h : i < s.size) : s.get! i = s.data.toList[i]'(by simpa using h) := by
  show s.get! i = s[i]'h
  simp [ByteArray.get!, getElem!_pos, h]
  rfl
/-- what a sign is, and what it covers -/
structure Far (s : ByteArray) (i : Nat) (r k : Nat) : Prop where
  dec : Utf8.decode s i = (r, k)
  big : 128 ≤ r
  ok : Utf8.valid (r : Int) = true
  pos : 1 ≤ k
  room : i + k ≤ s.size
  bytes : ∀ j, (h : j < s.data.toList.length) → i ≤ j → j < i + k → 128 ≤ (s.data.toList[j]).toNat
theorem far_at (s : ByteArray) (i : Nat) (hi : i < s.size) (h : 128 ≤ (s[i]'hi).toNat) : ∃ r k, Far s i r k := by
  have hd := Lib.decode_at s i
  have hg : s.get! i = s[i]'hi := get_list s i hi
  obtain ⟨f1, f2, f3, f4, f5, f6, f7⟩ := decodeN_far (s.size - i) (s.get! i).toNat (s.get! (i + 1)).toNat (s.get! (i + 2)).toNat (s.get! (i + 3)).toNat (by rw [hg]; exact h)
  rw [← hd] at f1 f2 f3 f4 f5 f6 f7
  refine ⟨(Utf8.decode s i).1, (Utf8.decode s i).2, rfl, f1, ?_, f3, ?_, ?_⟩
  · unfold Utf8.valid
    rcases f2 with f2 | f2 <;> simp <;> omega
  · have : (Utf8.decode s i).2 = 1 ∨ (Utf8.decode s i).2 = 2 ∨ (Utf8.decode s i).2 = 3 ∨ (Utf8.decode s i).2 = 4 := by omega
    rcases this with e | e | e | e <;> rw [e] at f5 f6 f7 ⊢ <;> omega
  · intro j hj h1 h2
    have hjs : j < s.size := by simpa using hj
    have : j = i ∨ j = i + 1 ∨ j = i + 2 ∨ j = i + 3 := by omega
    rw [← get_list s j hjs]
    rcases this with e | e | e | e
    · subst e; rw [hg]; exact h
    · subst e; exact (f5 (by omega)).1
    · subst e; exact (f6 (by omega)).1
    · subst e; exact (f7 (by omega)).1
theorem bad_far (c : UInt8) (h : 128 ≤ c.toNat) : Nm.bad c = false := by
  unfold Nm.bad
  rw [Bool.or_eq_false_iff, beq_eq_false_iff_ne, beq_eq_false_iff_ne]
  constructor <;> (intro e; subst e; revert h; decide)
theorem bad_take1 (l : List UInt8) (k : Nat) (h : k < l.length) : Nm.badB (l.take (k + 1)) = (Nm.badB (l.take k) || Nm.bad l[k]) := by
  rw [List.take_succ_eq_append_getElem h]
  unfold Nm.badB
  rw [List.any_append]
  simp
theorem bad_in (l : List UInt8) (k : Nat) (h : k < l.length) (hb : Nm.bad l[k] = true) : Nm.badB l = true :=
  List.any_eq_true.2 ⟨_, List.getElem_mem h, hb⟩
theorem bad_step (l : List UInt8) (i : Nat) : ∀ k, i + k ≤ l.length → Nm.badB (l.take i) = false → (∀ j, (h : j < l.length) → i ≤ j → j < i + k → 128 ≤ (l[j]).toNat) → Nm.badB (l.take (i + k)) = false
  | 0, _, h0, _ => h0
  | k + 1, hl, h0, hb => by
    rw [← Nat.add_assoc, bad_take1 l (i + k) (by omega), bad_step l i k (by omega) h0 (fun j h h1 h2 => hb j h h1 (by omega)), bad_far _ (hb (i + k) (by omega) (by omega) (by omega))]
    rfl

/-! ### the walk over a text of at most eight bytes -/
theorem run_next_at {w W : World} {s : ByteArray} {i : Nat} (hW : W.heap[w.heap.size]? = some (.stringIter s i)) (hb : Below w.heap.size w W) (hi : i < s.size) (r k : Nat) (hd : Utf8.decode s i = (r, k)) :
    ∃ W2 : World, (∀ ty, (Instr.next (.pointer (some ⟨w.heap.size, 0, none⟩)) true ty).run Try.prog W = .ok (.tuple #[.bool true, .int .i64 i, .int .i32 r]) W2) ∧ W2.heap[w.heap.size]? = some (.stringIter s (i + k)) ∧ Below w.heap.size w W2 := by
  have hlt : w.heap.size < W.heap.size := (Array.getElem?_eq_some_iff.1 hW).1
  refine ⟨{ W with heap := W.heap.setIfInBounds w.heap.size (.stringIter s (i + k)) }, fun ty => ?_, ?_, ?_⟩
  · simp only [Instr.next, getObj, setObj, Sem.run_bind, Sem.run, hW, Result.andThen, hi, if_true, hd]
    simp [goInt, Sem.run, hW]
  · simp [hlt]
  · obtain ⟨a1, a2, a3, a4, a5⟩ := hb
    refine ⟨a1, a2, a3, by simpa using a4, fun b hb => ?_⟩
    rw [← a5 b hb]
    simp [Array.getElem?_setIfInBounds]
    omega
theorem run_next_over {w W : World} {s : ByteArray} (hW : W.heap[w.heap.size]? = some (.stringIter s s.size)) (ty : TypeId) :
    (Instr.next (.pointer (some ⟨w.heap.size, 0, none⟩)) true ty).run Try.prog W = .ok (.tuple #[.bool false]) W := by
  simp [Instr.next, getObj, Sem.run, hW]
def AnyPost (s : ByteArray) (w : World) (e : Ending) (w' : World) : Prop := (∃ v : Int, e = .returned (.int .i64 v) ∧ decide (0 ≤ v) = Nm.badB s.data.toList) ∧ Below w.heap.size w w'

set_option maxHeartbeats 4000000 in
set_option maxRecDepth 100000 in
theorem any_short (s : ByteArray) (w : World) (h8 : s.size ≤ 8) : Calls Try.prog 26 #[.string s, .string ⟨#[0, 47]⟩] w (AnyPost s w) := by
  have h8z : decide ((8 : Int) < (s.size : Int)) = false := decide_eq_false (by omega)
  have HC := Lib.hid (size_list s)
  have HU := Lib.hid (fun (w : World) => Any.strings_shouldUseASCIISet (ρ := lay153_ren) { lay153 with } (s.size : Int) w)
  rw [h8z] at HU
  clear h8z
  go_enter Try.func26, Try.ntmps26
  go_wp2_with (go_at_call 30; refine (HU.out _).mono ?_; rintro e w' ⟨rfl, hw⟩; rw [hw]; clear hw)
  have hst : (w.iter s 0).heap[w.heap.size]? = some (.stringIter s 0) ∧ Below w.heap.size w (w.iter s 0) := ⟨World.iter_heap w s 0, (Below.refl _ _).alloc (Nat.le_refl _) _⟩
  have HS := Lib.hid hst
  clear hst
  generalize w.iter s 0 = w1 at HS ⊢
  go_loopg [9, 10] s.size (fun g _ _ wx => ∃ i : Nat, i + g = s.size ∧ Hid (wx.heap[w.heap.size]? = some (.stringIter s i) ∧ Below w.heap.size w wx) ∧ Hid (Nm.badB (s.data.toList.take i) = false))
  case atStart => exact ⟨0, by omega, HS, Lib.hid rfl⟩
  case round =>
    clear HS
    obtain ⟨i, hig, HS, HN⟩ := hrel
    by_cases hi : i < s.size
    · obtain ⟨x, hx⟩ : ∃ x : UInt8, s[i]'hi = x := ⟨_, rfl⟩
      have HX : Hid (s.data.toList[i]'(by rw [HC.out]; exact hi) = x) := Lib.hid hx
      by_cases h128 : x.toNat < 128
      · have hd := decode_ascii s i hi (by rw [hx]; exact h128)
        rw [hx] at hd
        obtain ⟨W2, hnx, hW1, hW2⟩ := run_next_at HS.out.1 HS.out.2 hi _ _ hd
        have HS2 := Lib.hid (And.intro hW1 hW2)
        have HA := Lib.hid (fun w => ascii_any x w h128)
        clear hd hx HS hW1 hW2
        cases hb : Nm.bad x with
        | true =>
          have HB : Hid (Nm.badB s.data.toList = true) := Lib.hid (bad_in _ i (by rw [HC.out]; exact hi) (by rw [HX.out]; exact hb))
          have HBX := Lib.hid hb
          clear hb
          go_wp2_with (go_at_call 29; refine (HA.out _).mono ?_; rintro e w' ⟨⟨v, rfl, hv, _⟩, rfl⟩; replace hv := hv HBX.out)
          go_ret
          exact ⟨⟨_, rfl, by rw [HB.out]; exact decide_eq_true (by omega)⟩, HS2.out.2⟩
        | false =>
          have HN2 : Hid (Nm.badB (s.data.toList.take (i + 1)) = false) := Lib.hid (by rw [bad_take1 _ i (by rw [HC.out]; exact hi), HN.out, HX.out, hb]; rfl)
          have HBX := Lib.hid hb
          clear hb
          go_wp2_with (go_at_call 29; refine (HA.out _).mono ?_; rintro e w' ⟨⟨v, rfl, _, hv⟩, rfl⟩; replace hv := hv HBX.out)
          go_roundg (gk - 1)
          case measure => omega
          case rel => exact ⟨i + 1, by omega, HS2, HN2⟩
      · obtain ⟨r, k, hf⟩ := far_at s i hi (by rw [hx]; omega)
        obtain ⟨W2, hnx, hW1, hW2⟩ := run_next_at HS.out.1 HS.out.2 hi _ _ hf.dec
        have HS2 := Lib.hid (And.intro hW1 hW2)
        have HF := Lib.hid hf
        have HA := Lib.hid (fun w => far_any (r : Int) w (by have := hf.big; omega) hf.ok)
        have hk1 := hf.pos
        have hk2 := hf.room
        have HN2 : Hid (Nm.badB (s.data.toList.take (i + k)) = false) := Lib.hid (bad_step _ i k (by rw [HC.out]; exact hf.room) HN.out hf.bytes)
        clear hf hx HS hW1 hW2
        go_wp2_with (go_at_call 29; refine (HA.out _).mono ?_; rintro e w' ⟨rfl, hw⟩; have HW := Lib.hid hw; clear hw)
        go_roundg (gk - k)
        case measure => omega
        case rel => exact ⟨i + k, by omega, Lib.hid ⟨(HW.out.block _ (Array.getElem?_eq_some_iff.1 HS2.out.1).1).trans HS2.out.1, HS2.out.2.trans (HW.out.mono HS2.out.2.size)⟩, HN2⟩
    · obtain rfl : i = s.size := by omega
      have hnx := run_next_over HS.out.1
      have HB : Hid (Nm.badB s.data.toList = false) := Lib.hid (by
        have := HN.out
        rw [List.take_of_length_le (by rw [HC.out]; omega)] at this
        exact this)
      go_wp2
      go_ret
      exact ⟨⟨_, rfl, by rw [HB.out]; rfl⟩, HS.out.2⟩
theorem index_bad : ∀ l : List UInt8, decide (0 ≤ Lib.indexAny l [0, 47]) = Nm.badB l
  | [] => rfl
  | b :: l => by
    have ih := index_bad l
    have hg := Lib.indexAny_ge [0, 47] l
    have e : ([0, 47] : List UInt8).contains b = Nm.bad b := by
      unfold Nm.bad
      rw [List.contains_cons, List.contains_cons, List.contains_nil, Bool.or_false]
    unfold Nm.badB at ih ⊢
    rw [List.any_cons, ← ih, Lib.indexAny, e]
    cases Nm.bad b with
    | true => rfl
    | false =>
      rw [if_neg (by decide), Bool.false_or, decide_eq_decide]
      by_cases h : Lib.indexAny l [0, 47] = -1
      · rw [h]; decide
      · rw [if_neg (fun k => h (beq_iff_eq.1 k))]
        omega
theorem indexAny_any (s : ByteArray) (w : World) (h : s.size ≤ 13) : Calls Try.prog 26 #[.string s, .string ⟨#[0, 47]⟩] w (AnyPost s w) := by
  by_cases h8 : s.size ≤ 8
  · exact any_short s w h8
  · exact (any_long s w (by omega) h).mono fun _ _ k => ⟨⟨_, k.1, index_bad _⟩, k.2⟩
set_option maxHeartbeats 1000000 in
theorem contains_any (s : ByteArray) (w : World) (hs : s.size ≤ 13) :
    Calls Try.prog 19 #[.string s, .string ⟨#[0, 47]⟩] w fun e w' => e = .returned (.bool (Nm.badB s.data.toList)) ∧ Below w.heap.size w w' := by
  have HI := Lib.hid (indexAny_any s w hs)
  cases hb : Nm.badB s.data.toList with
  | true =>
    have HB := Lib.hid hb
    clear hb
    go_enter Try.func19, Try.ntmps19
    go_wp2_with (go_at_call 26; refine HI.out.mono ?_; rintro e w' ⟨⟨v, rfl, hv⟩, hw⟩; rw [HB.out] at hv; replace hv := of_decide_eq_true hv; have HW := Lib.hid hw; clear hw)
    go_ret
    exact ⟨rfl, HW.out⟩
  | false =>
    have HB := Lib.hid hb
    clear hb
    go_enter Try.func19, Try.ntmps19
    go_wp2_with (go_at_call 26; refine HI.out.mono ?_; rintro e w' ⟨⟨v, rfl, hv⟩, hw⟩; rw [HB.out] at hv; replace hv := of_decide_eq_false hv; have HW := Lib.hid hw; clear hw)
    go_ret
    exact ⟨ret_bool (decide_eq_false (by omega)), HW.out⟩
end Go.Proofs.Ytejedkdlehgnpaa
