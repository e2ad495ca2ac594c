/-
  The contracts of the reference's step, Fuse, Read, Cached.
-/
import Derived.Test.YtaiikpfgnamgiaaDref
namespace Go.Proofs.Ytaiikpfgnamgiaa
open Go.RowKit
open Dk (zeros zeros_length)

theorem rstep_any {w : World} {r a b c : Nat} {s : Dk.St} (h : RefAt w r a b c s) : Calls Try.prog 28 #[.pointer (some ⟨r, 0, none⟩)] w fun e w' =>
    e = .returned (.bool (decide (Dk.spendE s = 0))) ∧ RefAt w' r a b c (Dk.spend s) ∧ Only [r] w w' := by
  have c3 := h.c3
  have c4 := h.c4
  have f3 := h.f3
  have f4 := h.f4
  have hsok := Dk.spend_ok h.ok
  have HD := Lib.hid h
  unfold leftOf at c3
  by_cases hl : s.lim = true
  · have h0 := h.ok.live hl
    have h1 := h.ok.hi
    rw [if_pos hl] at c3
    by_cases hz : s.left = 0
    · have HE : Hid (Dk.spendE s = 5) := Lib.hid (by unfold Dk.spendE; rw [if_pos ⟨hl, hz⟩])
      have hs : Dk.spend s = { s with down := true } := by unfold Dk.spend; rw [if_pos hl, if_pos hz]
      have HR : Hid (RefAt (w.setCell ⟨r, 4, none⟩ (.bool true)) r a b c (Dk.spend s)) := Lib.hid (h.setDown true hsok (Dk.spend_last s) (Dk.spend_cache s) (by rw [hs]; rfl) (by rw [hs]))
      rw [hz] at c3
      rw [HE.out]
      clear h hl hz h0 h1 hs hsok
      go_enter Try.func28, Try.ntmps28
      go_wp2
      go_ret
      exact ⟨rfl, HR.out, (Only.refl _ _).setCell (by simp) _⟩
    · have HE : Hid (Dk.spendE s = 0) := Lib.hid (by unfold Dk.spendE; rw [if_neg (fun e => hz e.2)])
      have hs : Dk.spend s = { s with left := s.left - 1 } := by unfold Dk.spend; rw [if_pos hl, if_neg hz]
      have HR : Hid (RefAt (w.setCell ⟨r, 3, none⟩ (.int .i64 (s.left - 1))) r a b c (Dk.spend s)) := Lib.hid (h.setLeft _ hsok (Dk.spend_last s) (Dk.spend_cache s) (by rw [hs]; unfold leftOf; rw [if_pos hl]) (by rw [hs]))
      have hb : (s.left == 0) = false := by simpa using hz
      have hp : 0 < s.left := by omega
      rw [HE.out]
      clear h hl hz hs hsok
      go_enter Try.func28, Try.ntmps28
      go_wp2
      go_ret
      exact ⟨rfl, HR.out, (Only.refl _ _).setCell (by simp) _⟩
  · have HE : Hid (Dk.spendE s = 0) := Lib.hid (by unfold Dk.spendE; rw [if_neg (fun e => hl e.1)])
    have hs : Dk.spend s = s := by unfold Dk.spend; rw [if_neg hl]
    rw [if_neg hl] at c3
    rw [HE.out, hs]
    clear h hl hs hsok
    go_enter Try.func28, Try.ntmps28
    go_wp2
    go_ret
    exact ⟨rfl, HD.out, Only.refl _ _⟩
theorem setCell_twice (w : World) (p : Addr) (u v : Value) : (w.setCell p u).setCell p v = w.setCell p v := by
  unfold World.setCell
  congr 1
  apply Array.ext_getElem?
  intro i
  simp only [Array.getElem?_modify]
  by_cases h : p.block = i
  · simp only [h, if_true]
    cases w.heap[i]? with
    | none => rfl
    | some o => cases o <;> simp <;> split <;> simp_all
  · simp [h]
theorem rfuse_any {w : World} {r a b c : Nat} {s : Dk.St} (h : RefAt w r a b c s) (k : Int) (h1 : -9223372036854775808 ≤ k) (h2 : k ≤ 9223372036854775807) : Calls Try.prog 17 #[.pointer (some ⟨r, 0, none⟩), .int .i64 k] w fun e w' =>
    e = .returned (.tuple #[]) ∧ RefAt w' r a b c (Dk.fuse s k) ∧ Only [r] w w' := by
  have c3 := h.c3
  have f3 := h.f3
  have hok := Dk.fuse_ok h.ok k h1 h2
  by_cases hk : k < 0
  · have hd : decide (0 ≤ k) = false := decide_eq_false (by omega)
    have HR : Hid (RefAt (w.setCell ⟨r, 3, none⟩ (.int .i64 (-1))) r a b c (Dk.fuse s k)) := Lib.hid (h.setLeft (-1) hok rfl rfl (by unfold leftOf Dk.fuse; simp [hd]) rfl)
    have HT := Lib.hid (setCell_twice w ⟨r, 3, none⟩ (.int .i64 k) (.int .i64 (-1)))
    clear h hok hd
    go_enter Try.func17, Try.ntmps17
    go_wp2
    go_end0
    rw [HT.out]
    exact ⟨rfl, HR.out, (Only.refl _ _).setCell (by simp) _⟩
  · have hd : decide (0 ≤ k) = true := decide_eq_true (by omega)
    have HR : Hid (RefAt (w.setCell ⟨r, 3, none⟩ (.int .i64 k)) r a b c (Dk.fuse s k)) := Lib.hid (h.setLeft k hok rfl rfl (by unfold leftOf Dk.fuse; simp [hd]) rfl)
    clear h hok hd
    go_enter Try.func17, Try.ntmps17
    go_wp2
    go_end0
    exact ⟨rfl, HR.out, (Only.refl _ _).setCell (by simp) _⟩
set_option maxHeartbeats 1000000 in
theorem rcached_any {w : World} {r a b c : Nat} {s : Dk.St} (h : RefAt w r a b c s) : Calls Try.prog 22 #[.pointer (some ⟨r, 0, none⟩)] w fun e w' => e = .returned (.int .i64 (Dk.count s : Int)) ∧ w = w' := by
  have c2 := h.c2
  have hn := h.n
  have hsm := h.ok.small
  have HB := Lib.hid h.on
  have HN := Lib.hid hn
  have HC : Hid (Dk.count s = (onOf s).countP id) := Lib.hid (by unfold Dk.count onOf; rw [List.countP_map]; rfl)
  rw [HC.out]
  clear h hn HC
  generalize onOf s = bs at HB HN ⊢
  generalize s.last.length = n at c2 hsm HN
  go_enter Try.func22, Try.ntmps22
  go_wp2_with fail
  go_loop [3, 4] (fun t i => ∃ k : Nat, k ≤ n ∧ i = .int .i64 k ∧ t = .int .i64 ((bs.take k).countP id : Nat)) (fun _ i => n - (intOf i).toNat)
  case atStart => exact ⟨0, Nat.zero_le _, rfl, rfl⟩
  case round =>
    obtain ⟨k, hk, rfl, rfl⟩ := hrel
    have hle : (bs.take k).countP id ≤ k := Nat.le_trans List.countP_le_length (List.length_take_le _ _)
    by_cases hlt : k < n
    · have hb := HB.out.at k (by rw [HN.out]; exact hlt)
      have HT : Hid ((bs.take (k + 1)).countP id = (bs.take k).countP id + if bs.getD k false = true then 1 else 0) := Lib.hid (by
        have hkl : k < bs.length := by rw [HN.out]; exact hlt
        rw [List.take_succ_eq_append_getElem hkl, List.countP_append, List.getD_eq_getElem?_getD, List.getElem?_eq_getElem hkl]
        simp [List.countP_cons])
      generalize bs.getD k false = x at hb HT
      generalize hK : (bs.take k).countP id = K at hle HT ⊢
      have HK := Lib.hid hK
      clear hK
      cases x
      · go_wp2
        go_round
        case rel => exact ⟨k + 1, by omega, by go_num, by rw [HT.out]; simp⟩
        case measure => simp [intOf]; omega
      · go_wp2
        go_round
        case rel => exact ⟨k + 1, by omega, by go_num, by rw [HT.out]; simp⟩
        case measure => simp [intOf]; omega
    · have HT : Hid (bs.take k = bs) := Lib.hid (List.take_of_length_le (by rw [HN.out]; omega))
      rw [HT.out]
      go_wp2
      go_ret
      exact ⟨rfl, rfl⟩
end Go.Proofs.Ytaiikpfgnamgiaa
