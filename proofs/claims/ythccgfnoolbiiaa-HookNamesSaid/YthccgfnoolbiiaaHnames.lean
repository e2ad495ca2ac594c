/-
  The walk of HookNames.
-/
import Derived.Test.YthccgfnoolbiiaaHawake
namespace Go.Proofs.Ythccgfnoolbiiaa
open Go.RowKit Go.Maps Pq

theorem toList_same {s t : ByteArray} (e : s.toList = t.toList) : s = t := by
  rw [ByteArray.toList_eq, ByteArray.toList_eq] at e
  exact ByteArray.ext (Array.toList_inj.1 e)
theorem words_same (s t : ByteArray) (hs : s.size ≤ 13) (ht : t.size ≤ 13) (h1 : (Hk.words s.data.toList).1 = (Hk.words t.data.toList).1) (h2 : (Hk.words s.data.toList).2 = (Hk.words t.data.toList).2) : s = t := by
  have ls : s.data.toList.length = s.size := by simp
  have lt : t.data.toList.length = t.size := by simp
  unfold Hk.words Hk.packs at h1 h2
  have l1 : (s.data.toList ++ [UInt8.ofNat s.data.toList.length]).length = s.size + 1 := by rw [List.length_append, ls]; rfl
  have l2 : (t.data.toList ++ [UInt8.ofNat t.data.toList.length]).length = t.size + 1 := by rw [List.length_append, lt]; rfl
  rw [if_pos (by omega), if_pos (by omega), if_pos (by omega), if_pos (by omega)] at h1 h2
  exact ByteArray.ext (Array.toList_inj.1 (Hk.nm_inj (by omega) (by omega) h1 h2))
theorem words_cmp (s t : ByteArray) (hs : s.size ≤ 13) (ht : t.size ≤ 13) : ((Hk.words s.data.toList).1 = (Hk.words t.data.toList).1 → ((Hk.words s.data.toList).2 == (Hk.words t.data.toList).2) = (s.toList == t.toList)) ∧ (¬ (Hk.words s.data.toList).1 = (Hk.words t.data.toList).1 → (s.toList == t.toList) = false) := by
  refine ⟨fun h1 => ?_, fun h1 => ?_⟩
  · by_cases h2 : (Hk.words s.data.toList).2 = (Hk.words t.data.toList).2
    · have := words_same s t hs ht h1 h2
      subst this
      simp
    · have : ¬ s.toList = t.toList := fun e => by
        have := toList_same e
        subst this
        exact h2 rfl
      rw [beq_eq_false_iff_ne.2 h2, beq_eq_false_iff_ne.2 this]
  · have : ¬ s.toList = t.toList := fun e => by
      have := toList_same e
      subst this
      exact h1 rfl
    rw [beq_eq_false_iff_ne.2 this]
set_option maxRecDepth 100000 in
set_option maxHeartbeats 4000000 in
theorem names_walk (s t : ByteArray) (w : World) : Calls Try.prog 5 #[.string s, .string t] w fun e w' => e = .returned (.bool true) ∧ Below w.heap.size w w' := by
  by_cases hs : s.size ≤ 13
  · by_cases ht : t.size ≤ 13
    · have HE := Lib.hid (words_cmp s t hs ht)
      have HS := Lib.hid (fun w => words_any s w)
      have HT := Lib.hid (fun w => words_any t w)
      generalize Hk.words s.data.toList = x at HE HS
      generalize Hk.words t.data.toList = y at HE HT
      obtain ⟨x1, x2⟩ := x
      obtain ⟨y1, y2⟩ := y
      go_enter Try.func5, Try.ntmps5
      go_wp2_with (first
        | (go_at_call 7; (with_reducible refine (awake_any _).mono ?_); rintro e w1 ⟨rfl, hb1⟩))
      go_wp2_with fail
      refine (HS.out _).mono ?_
      rintro e w2 ⟨rfl, hb2⟩
      go_wp2_with fail
      refine (HT.out _).mono ?_
      rintro e w3 ⟨rfl, hb3⟩
      have HBB : Hid (Below w.heap.size w w3) := Lib.hid (hb1.trans ((hb2.mono hb1.size).trans (hb3.mono (Nat.le_trans hb1.size hb2.size))))
      clear hb1 hb2 hb3
      by_cases hx : x1 = y1
      · have h2 := HE.out.1 hx
        subst hx
        have HQ := Lib.hid h2
        clear h2
        go_wp2
        go_ret
        exact ⟨ret_bool (by rw [HQ.out]; simp), HBB.out⟩
      · have h2 := HE.out.2 hx
        have HQ := Lib.hid h2
        clear h2
        go_wp2
        go_ret
        exact ⟨ret_bool (by rw [HQ.out]; simp), HBB.out⟩
    · go_enter Try.func5, Try.ntmps5
      have h2 : 13 < t.size := by omega
      go_wp2_with (first
        | (go_at_call 7; (with_reducible refine (awake_any _).mono ?_); rintro e w1 ⟨rfl, hb1⟩))
      go_ret
      exact ⟨rfl, hb1⟩
  · go_enter Try.func5, Try.ntmps5
    have h2 : 13 < s.size := by omega
    go_wp2_with (first
      | (go_at_call 7; (with_reducible refine (awake_any _).mono ?_); rintro e w1 ⟨rfl, hb1⟩))
    go_ret
    exact ⟨rfl, hb1⟩
end Go.Proofs.Ythccgfnoolbiiaa
