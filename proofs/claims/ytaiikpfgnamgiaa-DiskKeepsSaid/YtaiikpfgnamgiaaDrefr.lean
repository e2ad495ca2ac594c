/-
  The contracts of the reference's Read and Write.
-/
import Derived.Test.YtaiikpfgnamgiaaDrefc
import Derived.Test.YtaiikpfgnamgiaaDheld
namespace Go.Proofs.Ytaiikpfgnamgiaa
open Go.RowKit
open Dk (zeros zeros_length)

theorem rread_start (w : World) {r a b c : Nat} {s : Dk.St} (h : RefAt w r a b c s) : PageAt (w.alloc (.cells zeroCells 31)) w.heap.size zeros ∧ Below w.heap.size w (w.alloc (.cells zeroCells 31)) ∧ RefAt (w.alloc (.cells zeroCells 31)) r a b c s :=
  ⟨pageAt_zeros w 31, (Below.refl _ _).alloc (Nat.le_refl _) _, h.alloc _⟩
set_option maxHeartbeats 1000000 in
theorem rread_any {w : World} {r a b c : Nat} {s : Dk.St} (h : RefAt w r a b c s) (i : Int) : Calls Try.prog 13 #[.pointer (some ⟨r, 0, none⟩), .int .i64 i] w fun e w' => e = .returned (.tuple #[pageV (Dk.readP s i), .int .i64 (Dk.reachE s i)]) ∧ Below w.heap.size w w' := by
  have HS := Lib.hid (rread_start w h)
  have c4 := HS.out.2.2.c4
  have c0 := HS.out.2.2.c0
  have c2 := HS.out.2.2.c2
  have c1 := HS.out.2.2.c1
  rw [zeroCells_def] at c4 c0 c2 c1
  cases hd : s.down with
  | true =>
    have HE : Hid (Dk.reachE s i = 5) := Lib.hid (by unfold Dk.reachE; rw [if_pos hd])
    have HP : Hid (Dk.readP s i = zeros) := Lib.hid (by unfold Dk.readP; rw [HE.out, if_neg (by omega)])
    rw [HE.out, HP.out]
    rw [hd] at c4
    rw [zeroCells_def] at HS
    clear h hd HE HP c0 c1 c2
    go_enter Try.func13, Try.ntmps13
    go_wp2_with ((with_reducible refine wpList_store_page HS.out.1 zeros_length rfl (.tmp 4) (.tmp 10) rfl rfl ?_ ?_); (exact rfl))
    exact bodyPost_ret (results_page_int _ 4 5 rfl _ (HS.out.1.put _ zeros_length) rfl) rfl ⟨rfl, below_setCells _ (Nat.le_refl _) _ _ _ HS.out.2.1⟩
  | false =>
    rw [hd] at c4
    have hnd : ¬ s.down = true := by rw [hd]; simp
    by_cases hh : Dk.hasB s.last.length i = true
    · obtain ⟨q0, q1⟩ := Dk.has_yes hh
      obtain ⟨k, rfl⟩ := Int.eq_ofNat_of_zero_le q0
      have hk : k < s.last.length := by omega
      have HE : Hid (Dk.reachE s (k : Int) = 0) := Lib.hid (Dk.reach_mk hd hh)
      have HP : Hid (Dk.readP s (k : Int) = Dk.nowAt s k) := Lib.hid (by unfold Dk.readP; rw [if_pos HE.out, Int.toNat_natCast])
      have HNL := Lib.hid (Dk.nowAt_len h.ok hk)
      rw [HE.out, HP.out]
      have hon := HS.out.2.2.on.at k (by rw [h.n]; exact hk)
      rw [onOf_at s k (by rw [h.ok.same]; exact hk), zeroCells_def] at hon
      obtain ⟨new, hnew⟩ := HS.out.2.2.new
      have HNEW := Lib.hid hnew
      have t1 : ¬ (k : Int) < 0 := by omega
      have t2 : ¬ (s.last.length : Int) ≤ (k : Int) := by omega
      rw [zeroCells_def] at HS HNEW
      clear h hd hnd hh q0 HE HP hnew
      cases hc : Dk.cacheAt s k with
      | some p =>
        rw [hc] at hon
        simp only [Option.isSome_some] at hon
        have HI := Lib.hid (HNEW.out.held k p hc)
        have HNP : Hid (Dk.nowAt s k = p) := Lib.hid (by unfold Dk.nowAt; rw [hc]; rfl)
        rw [HNP.out] at HNL ⊢
        clear HNP hc
        go_enter Try.func13, Try.ntmps13
        go_wp2_with (first
          | (with_reducible refine wpList_load_row HNEW.out.rows k HI.out rfl (.tmp 35) rfl rfl ?_)
          | (with_reducible refine wpList_store_page HS.out.1 HNL.out rfl (.tmp 4) (.tmp 36) rfl rfl rfl ?_))
        exact bodyPost_ret (results_page_int _ 4 5 rfl _ (HS.out.1.put _ HNL.out) rfl) rfl ⟨rfl, below_setCells _ (Nat.le_refl _) _ _ _ HS.out.2.1⟩
      | none =>
        rw [hc] at hon
        simp only [Option.isSome_none] at hon
        obtain ⟨p, hp⟩ : ∃ p, s.last[k]? = some p := ⟨_, List.getElem?_eq_getElem hk⟩
        have HI := Lib.hid hp
        have HNP : Hid (Dk.nowAt s k = p) := Lib.hid (by unfold Dk.nowAt Dk.lastAt; rw [hc, List.getD_eq_getElem?_getD, hp]; rfl)
        rw [HNP.out] at HNL ⊢
        clear HNP hc hp
        go_enter Try.func13, Try.ntmps13
        go_wp2_with (first
          | (with_reducible refine wpList_load_row HS.out.2.2.rows k HI.out rfl (.tmp 42) rfl rfl ?_)
          | (with_reducible refine wpList_store_page HS.out.1 HNL.out rfl (.tmp 4) (.tmp 43) rfl rfl rfl ?_))
        exact bodyPost_ret (results_page_int _ 4 5 rfl _ (HS.out.1.put _ HNL.out) rfl) rfl ⟨rfl, below_setCells _ (Nat.le_refl _) _ _ _ HS.out.2.1⟩
    · have hh' : Dk.hasB s.last.length i = false := by simpa using hh
      have HE : Hid (Dk.reachE s i = 22) := Lib.hid (by unfold Dk.reachE; rw [if_neg hnd, if_neg hh])
      have HP : Hid (Dk.readP s i = zeros) := Lib.hid (by unfold Dk.readP; rw [HE.out, if_neg (by omega)])
      have hno := Dk.has_no hh'
      rw [HE.out, HP.out]
      rw [zeroCells_def] at HS
      clear h hd hnd hh hh' HE HP
      by_cases t1 : i < 0
      · clear hno
        go_enter Try.func13, Try.ntmps13
        go_wp2_with ((with_reducible refine wpList_store_page HS.out.1 zeros_length rfl (.tmp 4) (.tmp 22) rfl rfl ?_ ?_); (exact rfl))
        exact bodyPost_ret (results_page_int _ 4 5 rfl _ (HS.out.1.put _ zeros_length) rfl) rfl ⟨rfl, below_setCells _ (Nat.le_refl _) _ _ _ HS.out.2.1⟩
      · have t2 : (s.last.length : Int) ≤ i := by omega
        clear hno
        go_enter Try.func13, Try.ntmps13
        go_wp2_with ((with_reducible refine wpList_store_page HS.out.1 zeros_length rfl (.tmp 4) (.tmp 22) rfl rfl ?_ ?_); (exact rfl))
        exact bodyPost_ret (results_page_int _ 4 5 rfl _ (HS.out.1.put _ zeros_length) rfl) rfl ⟨rfl, below_setCells _ (Nat.le_refl _) _ _ _ HS.out.2.1⟩
end Go.Proofs.Ytaiikpfgnamgiaa
