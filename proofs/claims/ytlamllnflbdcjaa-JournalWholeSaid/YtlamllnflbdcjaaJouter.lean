/-
  The contract of a journal's Commit.
-/
import Derived.Test.YtlamllnflbdcjaaJcommit
namespace Go.Proofs.Ytlamllnflbdcjaa
open Go.RowKit
open Dk (zeros zeros_length)
open Hd (Head rightB pageH)
open Jn (Chg quietH liveH)

theorem takes_all {n a z : Nat} (cs : List Chg) : ∀ (f : Nat → Bool), takesFrom n a z f cs = true → ∀ c ∈ cs, otherB n a z c.no = true := by
  induction cs with
  | nil => intro f _ c hc; cases hc
  | cons x r ih =>
    intro f h c hc
    rw [takesFrom] at h
    by_cases hx : otherB n a z x.no = true ∧ f x.no.toNat = false
    · rw [if_pos hx] at h
      rcases List.mem_cons.1 hc with rfl | hc
      · exact hx.1
      · exact ih _ h c hc
    · rw [if_neg hx] at h; cases h
theorem takes_may {n a z r : Nat} {cs : List Chg} (h : takesB n a z cs = true) (hp : ∀ c ∈ cs, c.page.length = 64) (h1 : 1 ≤ cs.length) (h2 : cs.length ≤ r) (hr : r ≤ 32) (hz : 2 + r ≤ z) (hreg : a + z ≤ n) (hn : n ≤ 512) : Jn.May a z n cs where
  val := fun c hc => by
    have := of_decide_eq_true (takes_all cs _ h c hc)
    exact ⟨decide_eq_true ⟨this.1, this.2.1⟩, hp c hc⟩
  out := fun c hc => by
    have := of_decide_eq_true (takes_all cs _ h c hc)
    omega
  pos := h1
  few := by omega
  fit := by omega
  reg := hreg
  top := hn

theorem over_any {w : World} {j d a z : Nat} {q : Int} {o : Bool} (hj : JAt w j d a z q o) : Calls Try.prog 18 #[.pointer (some ⟨j, 0, none⟩)] w fun e w' => e = .returned (.bool o) ∧ w = w' := by
  have c4 := hj.c4
  clear hj
  go_enter Try.func18, Try.ntmps18
  go_wp2
  go_ret
  exact ⟨rfl, rfl⟩
theorem mroom_any {w : World} {j d a z r : Nat} {q : Int} {o : Bool} (hj : JAt w j d a z q o) (hroom : RoomIs z r) : Calls Try.prog 14 #[.pointer (some ⟨j, 0, none⟩)] w fun e w' => e = .returned (.int .i64 (r : Int)) ∧ w = w' := by
  have c2 := hj.c2
  have HR : Hid (∀ w, Calls Try.prog 13 #[.int .i64 (z : Int)] w fun e w' => e = .returned (.int .i64 (r : Int)) ∧ w = w') := Lib.hid hroom
  clear hj hroom
  go_enter Try.func14, Try.ntmps14
  go_wp2_with (go_at_call 13; refine (HR.out _).mono ?_; rintro e w' ⟨rfl, rfl⟩)
  go_ret
  exact ⟨rfl, rfl⟩

/-- how a Commit ends -/
def Comm (w : World) (j d l m a z r n : Nat) (q : Int) (s : Dk.St) (cs : List Chg) (e : Ending) (w' : World) : Prop :=
  (takesB n a z cs = false ∧ e = .returned (.int .i64 22) ∧ Below w.heap.size w w') ∨
  (r < cs.length ∧ e = .returned (.int .i64 28) ∧ Below w.heap.size w w') ∨
  (cs = [] ∧ e = .returned (.int .i64 0) ∧ Below w.heap.size w w') ∨
  (Jn.May a z n cs ∧ e = .returned (.int .i64 (Jn.runs s (Jn.steps a q cs)).2) ∧ DiskAt w' d l m (Jn.runs s (Jn.steps a q cs)).1 ∧ (∃ q', JAt w' j d a z q' ((Jn.runs s (Jn.steps a q cs)).2 != 0) ∧ ((Jn.runs s (Jn.steps a q cs)).2 = 0 → q' = q + 2)) ∧ Only [d, l, m, j] w w')
set_option maxRecDepth 100000 in
set_option maxHeartbeats 4000000 in
theorem outer_any {w : World} {j d l m a z r : Nat} {q : Int} {s : Dk.St} {cs : List Chg} (hj : JAt w j d a z q false) (h : DiskAt w d l m s) (hjd : j ∉ [d, l, m]) (ha : a ≤ 900) (hz : z ≤ 900) (hroom : RoomIs z r) (hr : r ≤ 32) (hrz : 2 + r ≤ z) (hreg : a + z ≤ s.last.length) (A : Option Addr) (c : Nat) (hrow : ChAt w A [d, l, m, j] cs) (hp : ∀ x ∈ cs, x.page.length = 64) (hl : cs.length ≤ 900) (hq0 : 0 ≤ q) (hq1 : q < 4294967290) :
    Calls Try.prog 8 #[.pointer (some ⟨j, 0, none⟩), .slice A cs.length c] w (Comm w j d l m a z r s.last.length q s cs) := by
  have HJD := Lib.hid hjd
  have HOV := Lib.hid (over_any hj)
  have HTK := Lib.hid (takes_any h a z (by omega) (by omega) A c cs (hrow.mono (by simp)) hp (by omega))
  have HRG := Lib.hid hj.reg
  have HI : Hid (∀ W, Below w.heap.size w W → JAt W j d a z q false ∧ DiskAt W d l m s ∧ ChAt W A [d, l, m, j] cs) := Lib.hid (fun W hb => ⟨hj.below hb, h.below hb, hrow.below hb⟩)
  have HMY := Lib.hid (fun (ht : takesB s.last.length a z cs = true) (h1 : 1 ≤ cs.length) (h2 : cs.length ≤ r) => takes_may ht hp h1 h2 hr hrz hreg h.ok.small)
  have HRM := Lib.hid hroom
  clear h hj hjd hrow hp hroom hreg
  unfold Comm
  generalize hR : Jn.runs s (Jn.steps a q cs) = R
  have HRR := Lib.hid hR
  clear hR
  generalize hnn : s.last.length = n at HTK HMY ⊢
  have HNN : Hid (n = s.last.length) := Lib.hid hnn.symm
  clear hnn
  obtain ⟨k, hk⟩ : ∃ k, cs.length = k := ⟨_, rfl⟩
  have HK := Lib.hid hk
  rw [hk] at HTK hl HMY ⊢
  clear hk
  go_enter Try.func8, Try.ntmps8
  go_wp2_with fail
  refine HOV.out.mono ?_
  rintro e w' ⟨rfl, rfl⟩
  clear HOV
  go_wp2_with (with_reducible refine wpList_load_reg HRG.out rfl (.tmp 10) rfl rfl ?_)
  refine HTK.out.mono ?_
  rintro e w2 ⟨rfl, hB2⟩
  have HB2 := Lib.hid hB2
  have HI2 := Lib.hid (HI.out _ hB2)
  clear hB2 HTK HRG HI
  cases ht : takesB n a z cs with
  | false =>
    go_wp2_with fail
    go_ret
    exact Or.inl ⟨ht, rfl, HB2.out⟩
  | true =>
    have HT := Lib.hid ht
    clear ht
    have HMR := Lib.hid (mroom_any HI2.out.1 HRM.out)
    go_wp2_with fail
    refine HMR.out.mono ?_
    rintro e w' ⟨rfl, rfl⟩
    clear HMR
    by_cases hkr : r < k
    · have hkr' : (r : Int) < (k : Int) := by omega
      go_wp2_with fail
      go_ret
      exact Or.inr (Or.inl ⟨hkr, rfl, HB2.out⟩)
    · have hkr' : ¬ ((r : Int) < (k : Int)) := by omega
      by_cases hk0 : k = 0
      · subst hk0
        have HN : Hid (cs = []) := Lib.hid (List.eq_nil_of_length_eq_zero HK.out)
        go_wp2_with fail
        go_ret
        exact Or.inr (Or.inr (Or.inl ⟨HN.out, rfl, HB2.out⟩))
      · have hk1 : ((k : Int) == 0) = false := by rw [beq_eq_false_iff_ne]; omega
        have HM := Lib.hid (HMY.out HT.out (by omega) (by omega))
        have HCM : Hid (Calls Try.prog 20 #[.pointer (some ⟨j, 0, none⟩), .slice A k c] w2 (Done w2 j d l m a z false q R)) := Lib.hid (by
          rw [← HRR.out]
          have hmm := HM.out
          have hnn : n = s.last.length := HNN.out
          rw [hnn] at hmm
          have := commit_any HI2.out.1 HI2.out.2.1 HJD.out ha hz A c HI2.out.2.2 hmm hq0 hq1
          rw [HK.out] at this
          exact this)
        clear hk0
        go_wp2_with fail
        refine HCM.out.mono ?_
        rintro e w3 ⟨rfl, hd3, ⟨q3, hj3, hq3⟩, ho3⟩
        have HJ3 := Lib.hid hj3
        have HO3 : Hid (Only [d, l, m, j] w w3) := Lib.hid ((Only.below HB2.out).trans ho3)
        have HQ3 := Lib.hid hq3
        have HD3 := Lib.hid hd3
        have c4 := hj3.c4
        have f4 := hj3.f 4 (by omega)
        clear hd3 hj3 hq3 ho3 HCM HI2
        go_wp2_with fail
        go_ret
        refine Or.inr (Or.inr (Or.inr ⟨HM.out, rfl, ?_, ⟨q3, HJ3.out.setOver _, HQ3.out⟩, HO3.out.setCell (by simp) _⟩))
        exact HD3.out.only (L := [j]) ((Only.refl [j] w3).setCell (p := ⟨j, 4, none⟩) (by simp) _) (fun e => HJD.out (by simp at e ⊢; omega)) (fun e => HJD.out (by simp at e ⊢; omega)) (fun e => HJD.out (by simp at e ⊢; omega))
end Go.Proofs.Ytlamllnflbdcjaa
