/-
  The document's New, At.
-/
import Derived.Test.YtkomehplcacbcaaZrk
namespace Go.Proofs.Ytkomehplcacbcaa
open Go.RowKit Go.Maps

theorem rnew_at (w : World) (hd : Value) (room base : Nat) (t : TypeId) (hb : base ≤ w.heap.size) : MpAt 67 hd (w.alloc (.cells #[hd, .int .i64 (room : Int), .slice none 0 0] t)) base w.heap.size (.slice none 0 0) room [] where
  row := rowAt_new w [hd, .int .i64 (room : Int), .slice none 0 0] t
  own := ⟨rfl, Or.inl ⟨rfl, rfl⟩⟩
  ne := by simp [Value.ownBlock]
  ge := hb
def RMade (lru : Bool) (room : Nat) (w : World) (e : Ending) (w' : World) : Prop := e = .returned (.pointer (some ⟨w.heap.size, 0, none⟩)) ∧ (∀ base, base ≤ w.heap.size → MpAt 67 (.bool lru) w' base w.heap.size (.slice none 0 0) room []) ∧ Below w.heap.size w w'
theorem rmade (lru : Bool) (room : Nat) (w : World) (t : TypeId) : RMade lru room w (.returned (.pointer (some ⟨w.heap.size, 0, none⟩))) (w.alloc (.cells #[.bool lru, .int .i64 (room : Int), .slice none 0 0] t)) :=
  ⟨rfl, fun base hb => rnew_at w (.bool lru) room base t hb, (Below.refl _ _).alloc (Nat.le_refl _) _⟩
theorem rnew_lru (room : Nat) (w : World) (h1 : 1 ≤ room) (h2 : room ≤ 8) : Calls Try.prog 8 #[.int .i64 2, .int .i64 (room : Int)] w (RMade true room w) := by
  have a1 : ¬ ((room : Int) < 1) := by omega
  have a2 : ¬ ((8 : Int) < (room : Int)) := by omega
  have HM := Lib.hid (rmade true room w 43)
  clear h1 h2
  go_enter Try.func8, Try.ntmps8
  go_wp2
  go_ret
  exact HM.out
theorem rnew_hash (room : Nat) (w : World) (h1 : 1 ≤ room) (h2 : room ≤ 8) : Calls Try.prog 8 #[.int .i64 1, .int .i64 (room : Int)] w (RMade false room w) := by
  have a1 : ¬ ((room : Int) < 1) := by omega
  have a2 : ¬ ((8 : Int) < (room : Int)) := by omega
  have HM := Lib.hid (rmade false room w 43)
  clear h1 h2
  go_enter Try.func8, Try.ntmps8
  go_wp2
  go_ret
  exact HM.out
theorem rnew_no (kind room : Int) (w : World) (h : ¬ ((kind = 1 ∨ kind = 2) ∧ 1 ≤ room ∧ room ≤ 8)) : Calls Try.prog 8 #[.int .i64 kind, .int .i64 room] w fun e w' => e = .returned (.pointer none) ∧ Below w.heap.size w w' := by
  by_cases h1 : kind = 1
  · subst h1
    by_cases hr : room < 1
    · clear h
      go_enter Try.func8, Try.ntmps8
      go_wp2
      go_ret
      exact ⟨rfl, Below.refl _ _⟩
    · have hr2 : 8 < room := by omega
      clear h
      go_enter Try.func8, Try.ntmps8
      go_wp2
      go_ret
      exact ⟨rfl, Below.refl _ _⟩
  · by_cases h2 : kind = 2
    · subst h2
      by_cases hr : room < 1
      · clear h
        go_enter Try.func8, Try.ntmps8
        go_wp2
        go_ret
        exact ⟨rfl, Below.refl _ _⟩
      · have hr2 : 8 < room := by omega
        clear h
        go_enter Try.func8, Try.ntmps8
        go_wp2
        go_ret
        exact ⟨rfl, Below.refl _ _⟩
    · have g1 : (kind != 1) = true := by simpa using h1
      have g2 : (kind != 2) = true := by simpa using h2
      clear h
      go_enter Try.func8, Try.ntmps8
      go_wp2
      go_ret
      exact ⟨rfl, Below.refl _ _⟩
set_option maxHeartbeats 1000000 in
theorem rat_any (hd : Value) (base b : Nat) (sv : Value) (room : Nat) (l : List Z.En) (key : Int) (w : World) (h : MpAt 67 hd w base b sv room l) (hn : l.length ≤ 1000) :
    Calls Try.prog 27 #[.pointer (some ⟨b, 0, none⟩), .int .i64 key] w fun e w' => e = .returned (.int .i64 (Z.posI key l)) ∧ w = w' := by
  obtain ⟨A, c, rfl⟩ := owns_slice h.own
  have hc2 := h.row.cell 2 _ rfl
  have H := Lib.hid h
  clear h
  go_enter Try.func27, Try.ntmps27
  go_wp2
  go_loop [5] (fun i => ∃ k : Nat, k ≤ l.length ∧ i = .int .i64 (k : Int) ∧ Hid (∀ j y, j < k → l[j]? = some y → y.key ≠ key)) (fun i => l.length - (intOf i).toNat)
  case atStart => exact ⟨0, Nat.zero_le _, rfl, Lib.hid (fun j y hj => absurd hj (Nat.not_lt_zero _))⟩
  case round =>
    obtain ⟨k, hk, rfl, HA⟩ := hrel
    by_cases hlt : k < l.length
    · obtain ⟨x, hx⟩ : ∃ x, l[k]? = some x := ⟨_, List.getElem?_eq_getElem hlt⟩
      obtain ⟨g, cap, hsv, _, _, _, hgl, hrg⟩ := own_range H.out.own hx
      injection hsv with hsv _ _
      subst hsv
      have hc := hrg 0 _ rfl
      rw [Nat.add_zero] at hc
      have HX := Lib.hid hx
      have hk0 : (0 : Int) ≤ (k : Int) := by omega
      have hk1 : (k : Int) < (l.length : Int) := by omega
      clear hx hrg
      by_cases hkey : x.key = key
      · have HR : Hid (Z.posI key l = (k : Int)) := Lib.hid (by unfold Z.posI; rw [Z.pos_of HX.out hkey HA.out])
        have hkb : (x.key == key) = true := by simpa using hkey
        go_wp2
        go_ret
        exact ⟨ret_int HR.out.symm, rfl⟩
      · have HM : Hid (∀ j y, j < k + 1 → l[j]? = some y → y.key ≠ key) := Lib.hid (fun j y hj hy => by
          by_cases e : j = k
          · subst e
            rw [HX.out] at hy
            injection hy with hy
            subst hy
            exact hkey
          · exact HA.out j y (by omega) hy)
        have hkb : (x.key == key) = false := by simpa using hkey
        go_wp2
        go_round
        case rel => exact ⟨k + 1, by omega, by go_num, HM⟩
        case measure => (simp [intOf] <;> omega)
    · have HR : Hid (Z.posI key l = -1) := Lib.hid (by
        unfold Z.posI
        rw [Z.pos_nil (fun e he => by
          obtain ⟨i, hi, rfl⟩ := List.getElem_of_mem he
          exact HA.out i _ (by omega) (List.getElem?_eq_getElem hi))])
      have hk1 : (l.length : Int) ≤ (k : Int) := by omega
      go_wp2
      go_ret
      exact ⟨ret_int HR.out.symm, rfl⟩
end Go.Proofs.Ytkomehplcacbcaa
