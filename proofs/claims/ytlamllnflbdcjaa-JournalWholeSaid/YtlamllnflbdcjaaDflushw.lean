/-
  The contract of disk's Flush: the walk.
-/
import Derived.Test.YtlamllnflbdcjaaDflush
namespace Go.Proofs.Ytlamllnflbdcjaa
open Go.RowKit Go.Maps
open Dk (zeros zeros_length)

theorem flush_nil (w : World) : Calls Try.prog 40 #[.pointer none] w fun e w' => e = .returned (.int .i64 5) ∧ w = w' := by
  go_enter Try.func40, Try.ntmps40
  go_wp2_with (go_at_call 15; refine (down_nil _).mono ?_; rintro e w' ⟨rfl, rfl⟩)
  go_ret
  exact ⟨rfl, rfl⟩
set_option maxRecDepth 100000 in
set_option maxHeartbeats 2000000 in
theorem flush_any {w : World} {d l m : Nat} {s : Dk.St} (h : DiskAt w d l m s) : Calls Try.prog 40 #[.pointer (some ⟨d, 0, none⟩)] w fun e w' =>
    e = .returned (.int .i64 (Dk.flushE s)) ∧ DiskAt w' d l m (Dk.flush s) ∧ Only [d, l, m] w w' := by
  have HD := Lib.hid h
  have HW := Lib.hid (down_any h)
  have HS := Lib.hid (spend_any h)
  cases hdn : s.down with
  | true =>
    have HE : Hid (Dk.flushE s = 5) := Lib.hid (by unfold Dk.flushE; rw [if_pos hdn])
    have HF : Hid (Dk.flush s = s) := Lib.hid (by unfold Dk.flush; rw [if_pos hdn])
    rw [HE.out, HF.out]
    rw [hdn] at HW
    clear h hdn
    go_enter Try.func40, Try.ntmps40
    go_wp2_with (go_at_call 15; refine HW.out.mono ?_; rintro e w' ⟨rfl, rfl⟩)
    go_ret
    exact ⟨rfl, HD.out, Only.refl _ _⟩
  | false =>
    rw [hdn] at HW
    have hnd : ¬ s.down = true := by rw [hdn]; simp
    have HE : Hid (Dk.flushE s = Dk.spendE s) := Lib.hid (by unfold Dk.flushE; rw [if_neg hnd])
    by_cases e0 : Dk.spendE s = 0
    · have HF : Hid (Dk.flush s = Dk.flushed (Dk.spend s)) := Lib.hid (by unfold Dk.flush; rw [if_neg hnd, if_pos e0])
      rw [HE.out, HF.out, e0]
      rw [e0] at HS
      clear h hdn hnd e0 HE HF
      generalize Dk.spend s = s1 at HS ⊢
      go_enter Try.func40, Try.ntmps40
      go_wp2_with fail
      refine HW.out.mono ?_
      rintro e w' ⟨rfl, rfl⟩
      go_wp2_with fail
      refine HS.out.mono ?_
      rintro e w1 ⟨rfl, hd1, ho1, hz1⟩
      have HD1 := Lib.hid hd1
      have HO1 := Lib.hid ho1
      have c4 := hd1.c4
      obtain ⟨D, hown, hD⟩ := hd1.map
      have HM := Lib.hid hD
      have HL := Lib.hid hd1.llt
      have HMM := Lib.hid hd1.mlt
      clear hd1 ho1 hz1 hD HW HS HD
      go_wp2_with (at_range; refine wpList_range_own _ rfl _ 55 rfl 3 31 keyLaw Try.underlying55 pageR m (Maps.size D) D rfl hown ?_; intro w0 hrg0 hg0 hs0)
      go_frame
      have HST := Lib.hid (flush_loop_start HD1.out HM.out hrg0 hg0)
      clear hrg0 hg0 hs0 hown
      go_loopw [20] (fun _ wr => ∃ (left : Lit → Bool) (cnt : Nat), FlushAt w1 l m w1.heap.size s1 D left cnt wr) (fun _ wr => wr.rangeLeft m w1.heap.size)
      case atStart => exact ⟨_, _, HST.out⟩
      case round =>
        obtain ⟨left, cnt, hfl⟩ := hrel
        have HFL := Lib.hid hfl
        have hrg := hfl.rg
        clear hfl HST
        go_wp2_with (at_next; refine wpList_next_ranges _ rfl _ rfl 3 keyLaw pageR (Value.int .i64) pageV invK invV m w1.heap.size (Maps.size D) D left cnt rfl hrg ?_ ?_)
        · intro _ hl0
          have HL0 := Lib.hid hl0
          clear hl0
          have c4' : wr.cell? ⟨d, 4, none⟩ = some (.map (some m)) := (HFL.out.only.cell (p := ⟨d, 4, none⟩) HD1.out.dlt (by simpa using HD1.out.dl)).trans c4
          obtain ⟨w2, hcl0, hmp, htn⟩ := MapAt.clear (w := wr) (b := m) (c := s1.cache) ⟨D, tight hrg.owns, HM.out⟩ s1.last.length 0
          have hcl : ∀ ty, (Builtin.clear_ #[55] ty #[.map (some m)]).run Try.prog wr = .ok (.tuple #[]) w2 := fun ty => hcl0
          clear hcl0
          go_wp2
          go_ret
          obtain ⟨q1, q2⟩ := flush_end HD1.out HFL.out HL0.out hmp htn
          exact ⟨rfl, q1, (HO1.out.mono (by simp)).trans (q2.mono (by simp))⟩
        · intro x c kl y1 y2 w2 cnt2 hkey hlx hv hat hrg2 hlt hg2 hs2 hen
          obtain ⟨i, rfl, rfl, hi, hci, hcl⟩ := came (y := (y1, y2)) HD1.out.ok HM.out hkey (HFL.out.sub _ hlx) hv hat
          have HI := Lib.hid hi
          have HCI := Lib.hid hci
          have HCL := Lib.hid hcl
          have hilen : (i : Int) < (s1.last.length : Int) := by omega
          have hi0 : (0 : Int) ≤ (i : Int) := by omega
          have HNX := Lib.hid (fun (W : World) (hb : Below w2.heap.size w2 W) => flush_next (w2 := W) HFL.out (Nat.le_refl _) HL.out HMM.out HD1.out.lm hrg2 hg2 hi hci hcl hb)
          have HLT := Lib.hid hlt
          clear hkey hlx hv hat hci hcl hi hs2 hlt hg2
          go_wp2_with (first
            | ((with_reducible refine wpList_store_new rfl (.tmp 5) (.tmp 24) rfl rfl ?_ ?_ HCL.out ?_); (exact rfl); (exact rfl); intro W2 hP hB2 hz2))
          have HQ := Lib.hid (HNX.out W2.drew hB2.drew)
          have c3'' : W2.drew.cell? ⟨d, 3, none⟩ = some (.slice (some ⟨l, 0, none⟩) s1.last.length s1.last.length) := (HQ.out.2.2.cell (p := ⟨d, 3, none⟩) HD1.out.dlt (by simpa using HD1.out.dl)).trans HD1.out.c3
          have HPP := Lib.hid hP
          clear hen hB2 hz2 hP
          refine wp_region_still_tail 7 (by kernel_rfl) (by kernel_rfl) ?_
          simp only [List.take_succ_cons, List.take_zero, List.drop_succ_cons, List.drop_zero]
          change wpStill _ _ W2.drew (fun a' => wpList _ _ _ _ a' W2.drew) _ _
          still_step
          still_step
          still_step
          still_step
          still_step
          refine wpStill_load_page (HPP.out.block rfl) rfl (.tmp 5) rfl rfl ?_
          still_step
          refine wpStill_nil ?_
          refine wpList_store_row HQ.out.1 i (by rw [mixL_length]; exact HI.out) HCL.out rfl (.tmp 31) (.tmp 30) rfl rfl rfl ?_
          go_frame
          go_wp2
          go_roundw
          case rel => exact ⟨_, _, HQ.out.2.1⟩
          case measure => rw [HQ.out.2.1.rg.left_eq, hrg.left_eq]; exact HLT.out
    · have HF : Hid (Dk.flush s = Dk.spend s) := Lib.hid (by unfold Dk.flush; rw [if_neg hnd, if_neg e0])
      rw [HE.out, HF.out]
      have hne2 : (Dk.spendE s == 0) = false := by simpa using e0
      have hne3 : (Dk.spendE s != 0) = true := by simpa using e0
      generalize Dk.spendE s = E at HS hne2 hne3 ⊢
      clear h hdn hnd e0 HE HF
      go_enter Try.func40, Try.ntmps40
      go_wp2_with fail
      refine HW.out.mono ?_
      rintro e w' ⟨rfl, rfl⟩
      go_wp2_with fail
      refine HS.out.mono ?_
      rintro e w1 ⟨rfl, hd1, ho1, hz1⟩
      go_wp2
      go_ret
      exact ⟨rfl, hd1, ho1.mono (by simp)⟩
end Go.Proofs.Ytlamllnflbdcjaa
