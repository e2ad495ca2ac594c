/- Texts of the proof. -/
import Derived.Test.YtncmihikpcdgoaaGreatCaf
import Derived.Test.YtncmihikpcdgoaaGreatCag
import Derived.Shelf.SlIterI.Nil
import Derived.Shelf.SortM.Plain
import Derived.Shelf.SortM.SortNone
set_option maxRecDepth 100000
set_option maxHeartbeats 16000000
namespace Go.Proofs.YtncmihikpcdgoaaGreat
section
open Go.RowKit Go.Maps
open Dk (zeros zeros_length)
open Hd (Head rightB pageH)
open Jn (Chg quietH liveH Cl Quiet LiveD May Same upd)
def sto0 (s : Dk.St) (a z r : Nat) (q : Int) : Sto := ⟨s, a, z, r, q, false, noPgs s.last.length, noPgs s.last.length⟩
def SOpened (w : World) (d l m a z r : Nat) (R : Dk.St × Int) (P : Int → Int → Prop) (e : Ending) (w' : World) : Prop :=
  DiskAt w' d l m R.1 ∧ Only [d, l, m] w w' ∧
  ((R.2 = 0 ∧ ∃ (b : Blk) (cnt q : Int), b.d = d ∧ b.l = l ∧ b.m = m ∧ w.heap.size ≤ b.s ∧ w.heap.size ≤ b.j ∧ w.heap.size ≤ b.t ∧ w.heap.size ≤ b.g ∧ e = .returned (.tuple #[.pointer (some ⟨b.s, 0, none⟩), .int .i64 0]) ∧ P cnt q ∧ StoreAt w' b (sto0 R.1 a z r q)) ∨
   (R.2 ≠ 0 ∧ e = .returned (.tuple #[.pointer none, .int .i64 R.2])))
theorem sto0_ok {s : Dk.St} {a z r : Nat} {q : Int} (ha : a ≤ 900) (hz : z ≤ 900) (hroom : RoomIs z r) (hr1 : 1 ≤ r) (hr2 : r ≤ 512) (hr3 : 1 + Jn.nl r + r ≤ z) (hreg : a + z ≤ s.last.length) : (sto0 s a z r q).Ok :=
  ⟨List.length_replicate, List.length_replicate, pagesOk_no _ _ _ _, pagesOk_no _ _ _ _, by show cntO (noPgs _) ≤ _; rw [cntO_no]; exact Nat.zero_le _, by show cntO (noPgs _) ≤ _; rw [cntO_no]; exact Nat.zero_le _, ha, hz, hreg, hroom, hr1, hr2, hr3⟩
theorem store_new {w w2 : World} {d l m j a z r : Nat} {q : Int} {s : Dk.St} {T : TypeId} (hd : DiskAt w2 d l m s) (hj : JAt w2 j d a z q false) (ho : Only [d, l, m] w w2) (hlt : d < w.heap.size ∧ l < w.heap.size ∧ m < w.heap.size) (hjj : w.heap.size ≤ j) (hok : (sto0 s a z r q).Ok) :
    StoreAt (((w2.alloc (.map #[] 0)).alloc (.map #[] 0)).alloc (.cells (stVals ⟨w2.heap.size + 2, j, d, l, m, w2.heap.size, w2.heap.size + 1⟩ a z).toArray T)) ⟨w2.heap.size + 2, j, d, l, m, w2.heap.size, w2.heap.size + 1⟩ (sto0 s a z r q) ∧
    Only [d, l, m] w (((w2.alloc (.map #[] 0)).alloc (.map #[] 0)).alloc (.cells (stVals ⟨w2.heap.size + 2, j, d, l, m, w2.heap.size, w2.heap.size + 1⟩ a z).toArray T)) := by
  have hjlt := hj.lt
  have hsz := ho.size
  have h1 : (w2.alloc (.map #[] 0)).heap.size = w2.heap.size + 1 := by simp
  have h2 : ((w2.alloc (.map #[] 0)).alloc (.map #[] 0)).heap.size = w2.heap.size + 2 := by simp
  have m1 := mapAt_made w2 s.last.length
  have m2 := mapAt_made (w2.alloc (.map #[] 0)) s.last.length
  rw [h1] at m2
  have r3 := rowAt_new ((w2.alloc (.map #[] 0)).alloc (.map #[] 0)) (stVals ⟨w2.heap.size + 2, j, d, l, m, w2.heap.size, w2.heap.size + 1⟩ a z) T
  rw [h2] at r3
  have b1 : ∀ k, k < w2.heap.size + 1 → ((w2.alloc (.map #[] 0)).alloc (.map #[] 0)).heap[k]? = (w2.alloc (.map #[] 0)).heap[k]? := fun k hk => Below.heap_alloc _ _ k (by omega)
  have b2 : ∀ k, k < w2.heap.size + 2 → (((w2.alloc (.map #[] 0)).alloc (.map #[] 0)).alloc (.cells (stVals ⟨w2.heap.size + 2, j, d, l, m, w2.heap.size, w2.heap.size + 1⟩ a z).toArray T)).heap[k]? = ((w2.alloc (.map #[] 0)).alloc (.map #[] 0)).heap[k]? := fun k hk => Below.heap_alloc _ _ k (by omega)
  refine ⟨⟨r3, ⟨q, ?_, fun _ => rfl⟩, (((hd.alloc _).alloc _).alloc _), ?_, ?_, ?_, hok⟩, ((ho.alloc _).alloc _).alloc _⟩
  · exact ((hj.block (Below.heap_alloc _ _ j hjlt)).block (b1 j (by omega))).block (b2 j (by omega))
  · exact (m1.block (b1 _ (by omega))).block (b2 _ (by show w2.heap.size < _; omega))
  · exact m2.block (b2 _ (by show w2.heap.size + 1 < _; omega))
  · have e1 := hd.dl
    have e2 := hd.dm
    have e3 := hd.lm
    unfold Blk.all
    simp only [List.nodup_cons, List.mem_cons, List.not_mem_nil, or_false, not_or, List.nodup_nil, not_false_eq_true, and_true]
    omega
theorem sopen_any {w : World} {d l m a z r : Nat} {R : Dk.St × Int} {P : Int → Int → Prop} (hd : d < w.heap.size ∧ l < w.heap.size ∧ m < w.heap.size) (hlen : a + z ≤ R.1.last.length) (ha : a ≤ 900) (hz : z ≤ 900) (hroom : RoomIs z r) (hr1 : 1 ≤ r) (hr2 : r ≤ 512) (hr3 : 1 + Jn.nl r + r ≤ z)
    (hO : Calls Tryz.prog 104 #[.pointer (some ⟨d, 0, none⟩), .int .i64 (a : Int), .int .i64 (z : Int)] w (Opened w d l m a z R P)) :
    Calls Tryz.prog 62 #[.pointer (some ⟨d, 0, none⟩), .int .i64 (a : Int), .int .i64 (z : Int)] w (SOpened w d l m a z r R P) := by
  have HO := Lib.hid hO
  have HD := Lib.hid hd
  have HOK := Lib.hid (fun q => sto0_ok (s := R.1) (q := q) ha hz hroom hr1 hr2 hr3 hlen)
  clear hO hd hlen hroom hr1 hr2 hr3
  have hmm := @run_makeMap Tryz.prog
  go_enter Tryz.func62, Tryz.ntmps62
  go_wp2_with fail
  refine HO.out.mono ?_
  rintro e w2 ⟨hd2, ho2, hc⟩
  have HD2 := Lib.hid hd2
  have HO2 := Lib.hid ho2
  clear hd2 ho2 HO
  rcases hc with ⟨hz0, j, cnt, q, rfl, hj, hP, hjj⟩ | ⟨hz0, rfl⟩
  · have HZ := Lib.hid hz0
    have HN := Lib.hid (store_new (T := 134) HD2.out hj HO2.out HD.out hjj (HOK.out q))
    have HP := Lib.hid hP
    have HJJ := Lib.hid hjj
    have HSZ := Lib.hid HO2.out.size
    clear hj hP hjj hz0
    unfold stVals at HN
    go_wp2_with fail
    go_ret2
    have h3 : (((w2.alloc (.map #[] 0)).alloc (.map #[] 0)).heap.size) = w2.heap.size + 2 := by simp
    have hs := HSZ.out
    exact ⟨HN.out.1.disk, HN.out.2, Or.inl ⟨HZ.out, ⟨w2.heap.size + 2, j, d, l, m, w2.heap.size, w2.heap.size + 1⟩, cnt, q, rfl, rfl, rfl, (by show w.heap.size ≤ w2.heap.size + 2; omega), HJJ.out, (by show w.heap.size ≤ w2.heap.size; omega), (by show w.heap.size ≤ w2.heap.size + 1; omega), rfl, HP.out, HN.out.1⟩⟩
  · have hne2 : (R.2 == 0) = false := by simpa using hz0
    have hne3 : (R.2 != 0) = true := by simpa using hz0
    have HZ := Lib.hid hz0
    clear hz0
    generalize hE : R.2 = E at hne2 hne3 ⊢
    have HE := Lib.hid hE
    clear hE
    go_wp2_with fail
    go_ret2
    exact ⟨HD2.out, HO2.out, Or.inr ⟨HZ.out, by rw [HE.out]; rfl⟩⟩
end

section
open Go.RowKit Go.Maps
open Dk (zeros zeros_length)
open Hd (Head rightB pageH)
open Jn (Chg quietH liveH Cl Quiet LiveD May Same upd)
structure Sound (s : Sto) : Prop where
  ok : s.Ok
  up : s.over = false
  cl : Cl s.dk
  q0 : 0 ≤ s.q
  head : s.dk.last.getD s.a [] = pageH (quietH s.q)
theorem Sound.may {s : Sto} (h : Sound s) (hc : cntO s.group ≠ 0) : May s.a s.z s.dk.last.length (chgs s.group) :=
  takes_may (r := s.r) (chgs_takes h.ok.gpg) (chgs_pages h.ok.gpg) (by rw [chgs_length]; omega) (by rw [chgs_length]; exact h.ok.gcnt) h.ok.r32 h.ok.rz h.ok.reg h.cl.ok.small
theorem Sound.step {s : Sto} (h : Sound s) {c : Pgs} (hok : Sto.Ok { s with step := c }) : Sound { s with step := c } := ⟨hok, h.up, h.cl, h.q0, h.head⟩
theorem Sound.join {s : Sto} (h : Sound s) (hc : stog s ≤ s.r) : Sound (sjoin s) := ⟨sjoin_ok h.ok hc, h.up, h.cl, h.q0, h.head⟩
theorem sync_two {s : Sto} (h : Sound s) (hq : s.q < 250) :
    (ssyncE s = 0 ∧ Sound (ssync s) ∧ Same s.a s.z (ssync s).dk.last (upd s.dk.last (chgs s.group)) ∧ (ssync s).dk.last.length = s.dk.last.length ∧ (ssync s).q ≤ s.q + 2 ∧ (ssync s).dk.lim = s.dk.lim) ∨
    (ssyncE s = 5 ∧ s.dk.lim = true ∧ (ssync s).over = true ∧ (ssync s).dk.Ok ∧ cntO s.group ≠ 0 ∧ ∀ keep, Good false s.a s.z (s.q + 2) (chgs s.group) s.dk.last (Dk.crash (ssync s).dk keep).last) := by
  have hnn : ¬ s.over = true := by rw [h.up]; simp
  by_cases hz : cntO s.group = 0
  · left
    have hs : ssync s = s := by unfold ssync; rw [if_neg hnn, if_pos hz]
    have hcs : chgs s.group = [] := List.eq_nil_of_length_eq_zero (by rw [chgs_length]; exact hz)
    refine ⟨by unfold ssyncE; rw [if_neg hnn, if_pos hz], by rw [hs]; exact h, ?_, by rw [hs], by rw [hs]; omega, by rw [hs]⟩
    rw [hs, hcs]
    exact fun _ _ => rfl
  · have hm := h.may hz
    have hE : ssyncE s = (srun s).2 := by unfold ssyncE; rw [if_neg hnn, if_neg hz]
    have hS : ssync s = if (srun s).2 = 0 then { scommit s with group := noPgs s.dk.last.length } else scommit s := by unfold ssync; rw [if_neg hnn, if_neg hz]
    have hC : (srun s).1.last.length = s.dk.last.length := srun_len s
    have hok := scommit_ok h.ok
    have hcl := sclear_ok hok (n := s.dk.last.length) hC.symm
    rcases Jn.commitM h.cl hm h.q0 hq h.head with ⟨e1, e2, e3, e4, e5⟩ | ⟨e1, e2, e3, e4⟩
    · left
      rw [show Jn.runs s.dk (Jn.steps s.a s.q (chgs s.group)) = srun s from rfl] at e1 e2 e3 e4 e5
      rw [hE, hS, if_pos e1]
      have hq0 := h.q0
      refine ⟨e1, ⟨hcl, ?_, e2, ?_, e4⟩, e3.same, hC, Int.le_refl _, e5⟩
      · show ((srun s).2 != 0) = false
        rw [e1]; rfl
      · show 0 ≤ s.q + 2
        omega
    · right
      rw [show Jn.runs s.dk (Jn.steps s.a s.q (chgs s.group)) = srun s from rfl] at e1 e3 e4
      rw [hE, hS, if_neg (by rw [e1]; decide)]
      refine ⟨e1, e2, ?_, e3, hz, fun keep => ?_⟩
      · show ((srun s).2 != 0) = true
        rw [e1]; rfl
      · rcases e4 keep with g | g | g
        · exact Or.inl ⟨rfl, g⟩
        · exact Or.inr (Or.inl g)
        · refine Or.inr (Or.inr ⟨?_, g⟩)
          have : (Dk.crash (srun s).1 keep).last.length = s.dk.last.length := by rw [Dk.crash_len]; exact hC
          show May s.a s.z (Dk.crash (srun s).1 keep).last.length _
          rw [this]; exact hm
end

section
open Go.RowKit Go.Maps
open Dk (zeros zeros_length)
open Jn (Chg)
theorem below_drewN {n : Nat} (w : World) (k : Nat) : Below n w (w.drewN k) := ⟨rfl, rfl, rfl, Nat.le_refl _, fun _ _ => rfl⟩
theorem sover_any {w : World} {b : Blk} {s : Sto} (h : StoreAt w b s) : Calls Tryz.prog 71 #[.pointer (some ⟨b.s, 0, none⟩)] w fun e w' => e = .returned (.bool s.over) ∧ w = w' := by
  obtain ⟨q, hj, _⟩ := h.ja
  have HO := Lib.hid (over_any hj)
  have c0 := h.c0
  clear h hj
  go_enter Tryz.func71, Tryz.ntmps71
  go_wp2_with (go_at_call 114; refine HO.out.mono ?_; rintro e w' ⟨rfl, rfl⟩)
  go_ret
  exact ⟨rfl, rfl⟩
theorem sreach_any {w : World} {b : Blk} {s : Sto} (h : StoreAt w b s) (i : Int) : Calls Tryz.prog 119 #[.pointer (some ⟨b.s, 0, none⟩), .int .i64 i] w fun e w' => e = .returned (.int .i64 (sreachE s i)) ∧ Below w.heap.size w w' := by
  have HO := Lib.hid (sover_any h)
  have HP : Hid (∀ n, Calls Tryz.prog 72 #[.pointer (some ⟨b.d, 0, none⟩)] (w.drewN n) fun e w' => e = .returned (.int .i64 (s.dk.last.length : Int)) ∧ w' = w.drewN n) := Lib.hid (fun n => (pages_any (h.disk.drewN n)).mono fun e w' ⟨h1, h2⟩ => ⟨h1, h2.symm⟩)
  have c1 := h.c1
  have c2 := h.c2
  have c3 := h.c3
  have ha : (s.a : Int) ≤ 900 := by have := h.ok.a9; omega
  have hz : (s.z : Int) ≤ 900 := by have := h.ok.z9; omega
  clear h
  cases ho : s.over with
  | true =>
    rw [ho] at HO
    have HE : Hid (sreachE s i = 5) := Lib.hid (by unfold sreachE; rw [if_pos ho])
    rw [HE.out]
    clear ho HE
    go_enter Tryz.func119, Tryz.ntmps119
    go_wp2_with (go_at_call 71; refine HO.out.mono ?_; rintro e w' ⟨rfl, rfl⟩)
    go_ret
    exact ⟨rfl, Below.refl _ _⟩
  | false =>
    rw [ho] at HO
    have HE : Hid (sreachE s i = if otherB s.dk.last.length s.a s.z i = true then 0 else 22) := Lib.hid (by unfold sreachE; rw [if_neg (by rw [ho]; simp)])
    rw [HE.out]
    clear ho HE
    generalize s.dk.last.length = n at HP ⊢
    generalize s.a = a at *
    generalize s.z = z at *
    by_cases k1 : i < 0
    · have HE : Hid (otherB n a z i = false) := Lib.hid (by unfold otherB; rw [decide_eq_false_iff_not]; omega)
      rw [HE.out]
      go_enter Tryz.func119, Tryz.ntmps119
      go_wp2_with (go_at_call 71; refine HO.out.mono ?_; rintro e w' ⟨rfl, rfl⟩)
      go_quiet ((go_at_call 72; refine Calls.quiet_of_same (HP.out _)))
      go_wp2
      go_ret
      exact ⟨rfl, below_drewN _ _⟩
    · have k1' : decide (i < 0) = false := decide_eq_false k1
      by_cases k2 : (n : Int) ≤ i
      · have HE : Hid (otherB n a z i = false) := Lib.hid (by unfold otherB; rw [decide_eq_false_iff_not]; omega)
        rw [HE.out]
        go_enter Tryz.func119, Tryz.ntmps119
        go_wp2_with (go_at_call 71; refine HO.out.mono ?_; rintro e w' ⟨rfl, rfl⟩)
        go_quiet ((go_at_call 72; refine Calls.quiet_of_same (HP.out _)))
        go_wp2
        go_ret
        exact ⟨rfl, below_drewN _ _⟩
      · have k2' : decide ((n : Int) ≤ i) = false := decide_eq_false k2
        by_cases k3 : (a : Int) ≤ i
        · by_cases k4 : i < (a : Int) + (z : Int)
          · have HE : Hid (otherB n a z i = false) := Lib.hid (by unfold otherB; rw [decide_eq_false_iff_not]; omega)
            rw [HE.out]
            go_enter Tryz.func119, Tryz.ntmps119
            go_wp2_with (go_at_call 71; refine HO.out.mono ?_; rintro e w' ⟨rfl, rfl⟩)
            go_quiet ((go_at_call 72; refine Calls.quiet_of_same (HP.out _)))
            go_wp2
            go_ret
            exact ⟨rfl, below_drewN _ _⟩
          · have k4' : decide (i < (a : Int) + (z : Int)) = false := decide_eq_false k4
            have HE : Hid (otherB n a z i = true) := Lib.hid (by unfold otherB; rw [decide_eq_true_iff]; omega)
            rw [HE.out]
            go_enter Tryz.func119, Tryz.ntmps119
            go_wp2_with (go_at_call 71; refine HO.out.mono ?_; rintro e w' ⟨rfl, rfl⟩)
            go_quiet ((go_at_call 72; refine Calls.quiet_of_same (HP.out _)))
            go_wp2
            go_ret
            exact ⟨rfl, below_drewN _ _⟩
        · have k3' : decide ((a : Int) ≤ i) = false := decide_eq_false k3
          have HE : Hid (otherB n a z i = true) := Lib.hid (by unfold otherB; rw [decide_eq_true_iff]; omega)
          rw [HE.out]
          go_enter Tryz.func119, Tryz.ntmps119
          go_wp2_with (go_at_call 71; refine HO.out.mono ?_; rintro e w' ⟨rfl, rfl⟩)
          go_quiet ((go_at_call 72; refine Calls.quiet_of_same (HP.out _)))
          go_wp2
          go_ret
          exact ⟨rfl, below_drewN _ _⟩
theorem sdrop_any {w : World} {b : Blk} {s : Sto} (h : StoreAt w b s) : Calls Tryz.prog 78 #[.pointer (some ⟨b.s, 0, none⟩)] w fun e w' => e = .returned (.tuple #[]) ∧ StoreAt w' b (sdrop s) ∧ Only [b.t] w w' := by
  have HH := Lib.hid h
  have c4 := h.c4
  obtain ⟨w2, hcl0, hmp, htn⟩ := h.step.clear s.dk.last.length 0
  have hcl : ∀ ty, (Builtin.clear_ #[102] ty #[.map (some b.t)]).run Tryz.prog w = .ok (.tuple #[]) w2 := fun ty => hcl0
  have HM := Lib.hid hmp
  have HT := Lib.hid htn
  clear h hcl0 hmp htn
  go_enter Tryz.func78, Tryz.ntmps78
  go_wp2
  go_end0
  have ho : Only [b.t] w w2 := Only.grown HT.out.grown (by simp)
  exact ⟨rfl, HH.out.setStep ho HM.out (sdrop_ok HH.out.ok), ho⟩
end

section
open Go.Shelf
def keysA_ren : Go.Shelf.Ren := ⟨fun | 7 => 139 | 10 => 160 | n => n, fun | 23 => 102 | 26 => 3 | 3 => 68 | 28 => 141 | 0 => 0 | 27 => 140 | 33 => 115 | 4 => 4 | n => n, fun | n => n⟩
theorem keysA : Go.Proofs.SlLaysZI.n7 Tryz.prog keysA_ren := {
  mixed := by kernel_rfl
  f7 := ⟨Tryz.f139.name, by decide, Tryz.func139.trans (congrArg some (by kernel_rfl))⟩
  f10 := ⟨Tryz.f160.name, by decide, Tryz.func160.trans (congrArg some (by kernel_rfl))⟩
  t0 := Tryz.underlying0
  a0 := Tryz.isAgg0
  z0 := Tryz.sizeOf0
  v0 := Tryz.zeroValue0
  t4 := Tryz.underlying4
  a4 := Tryz.isAgg4
  z4 := Tryz.sizeOf4
  v4 := Tryz.zeroValue4
  t23 := Tryz.underlying102
  a23 := Tryz.isAgg102
  z23 := Tryz.sizeOf102
  v23 := Tryz.zeroValue102
  t26 := Tryz.underlying3
  a26 := Tryz.isAgg3
  z26 := Tryz.sizeOf3
  v26 := Tryz.zeroValue3
  t27 := Tryz.underlying140
  a27 := Tryz.isAgg140
  z27 := Tryz.sizeOf140
  v27 := Tryz.zeroValue140
  t28 := Tryz.underlying141
  a28 := Tryz.isAgg141
  z28 := Tryz.sizeOf141
  v28 := Tryz.zeroValue141
  t33 := Tryz.underlying115
  a33 := Tryz.isAgg115
  z33 := Tryz.sizeOf115
  v33 := Tryz.zeroValue115 }
def sortedA_ren : Go.Shelf.Ren := ⟨fun | 6 => 138 | 8 => 158 | 9 => 159 | 11 => 170 | 13 => 172 | 12 => 171 | 23 => 186 | 24 => 187 | 14 => 177 | 15 => 178 | 16 => 179 | 17 => 180 | 18 => 181 | 19 => 182 | 20 => 183 | 21 => 184 | 22 => 185 | 25 => 188 | 26 => 189 | 27 => 190 | 28 => 191 | 29 => 192 | 30 => 193 | 31 => 194 | n => n, fun | 26 => 3 | 28 => 141 | 24 => 73 | 0 => 0 | 3 => 3 | 37 => 72 | 48 => 188 | 50 => 224 | 4 => 4 | 40 => 216 | 39 => 215 | 45 => 220 | 5 => 5 | 9 => 9 | 51 => 225 | 55 => 124 | 57 => 230 | 58 => 119 | 33 => 115 | n => n, fun | n => n⟩
theorem sortedA : Go.Proofs.SlLaysZI.n6 Tryz.prog sortedA_ren := {
  mixed := by kernel_rfl
  f6 := ⟨Tryz.f138.name, by decide, Tryz.func138.trans (congrArg some (by kernel_rfl))⟩
  f8 := ⟨Tryz.f158.name, by decide, Tryz.func158.trans (congrArg some (by kernel_rfl))⟩
  f11 := ⟨Tryz.f170.name, by decide, Tryz.func170.trans (congrArg some (by kernel_rfl))⟩
  t0 := Tryz.underlying0
  a0 := Tryz.isAgg0
  z0 := Tryz.sizeOf0
  v0 := Tryz.zeroValue0
  t24 := Tryz.underlying73
  a24 := Tryz.isAgg73
  z24 := Tryz.sizeOf73
  v24 := Tryz.zeroValue73
  t26 := Tryz.underlying3
  a26 := Tryz.isAgg3
  z26 := Tryz.sizeOf3
  v26 := Tryz.zeroValue3
  t28 := Tryz.underlying141
  a28 := Tryz.isAgg141
  z28 := Tryz.sizeOf141
  v28 := Tryz.zeroValue141
  i26 := by kernel_rfl }
def sortA_ren : Go.Shelf.Ren := ⟨fun | 5 => 159 | 8 => 172 | 7 => 171 | 19 => 186 | 20 => 187 | 10 => 177 | 11 => 178 | 12 => 179 | 13 => 180 | 14 => 181 | 15 => 182 | 16 => 183 | 17 => 184 | 18 => 185 | 30 => 188 | 31 => 189 | 32 => 190 | 33 => 191 | 34 => 192 | 35 => 193 | 40 => 194 | n => n, fun | 23 => 73 | 25 => 3 | 3 => 3 | 32 => 72 | 22 => 73 | 0 => 0 | 44 => 188 | 46 => 224 | 4 => 4 | 36 => 216 | 35 => 215 | 41 => 220 | 5 => 5 | 9 => 9 | 53 => 225 | 57 => 124 | 63 => 230 | 64 => 119 | n => n, fun | n => n⟩
theorem sortA : Go.Proofs.SlLaysM.n5 Tryz.prog sortA_ren := {
  mixed := by kernel_rfl
  f5 := ⟨Tryz.f159.name, by decide, Tryz.func159.trans (congrArg some (by kernel_rfl))⟩
  f7 := ⟨Tryz.f171.name, by decide, Tryz.func171.trans (congrArg some (by kernel_rfl))⟩
  f8 := Tryz.func172.trans (congrArg some (by kernel_rfl))
  f10 := ⟨Tryz.f177.name, by decide, Tryz.func177.trans (congrArg some (by kernel_rfl))⟩
  f11 := ⟨Tryz.f178.name, by decide, Tryz.func178.trans (congrArg some (by kernel_rfl))⟩
  f12 := ⟨Tryz.f179.name, by decide, Tryz.func179.trans (congrArg some (by kernel_rfl))⟩
  f13 := ⟨Tryz.f180.name, by decide, Tryz.func180.trans (congrArg some (by kernel_rfl))⟩
  f14 := ⟨Tryz.f181.name, by decide, Tryz.func181.trans (congrArg some (by kernel_rfl))⟩
  f15 := ⟨Tryz.f182.name, by decide, Tryz.func182.trans (congrArg some (by kernel_rfl))⟩
  f16 := ⟨Tryz.f183.name, by decide, Tryz.func183.trans (congrArg some (by kernel_rfl))⟩
  f17 := ⟨Tryz.f184.name, by decide, Tryz.func184.trans (congrArg some (by kernel_rfl))⟩
  f18 := ⟨Tryz.f185.name, by decide, Tryz.func185.trans (congrArg some (by kernel_rfl))⟩
  f19 := Tryz.func186.trans (congrArg some (by kernel_rfl))
  f20 := Tryz.func187.trans (congrArg some (by kernel_rfl))
  f30 := ⟨Tryz.f188.name, by decide, Tryz.func188.trans (congrArg some (by kernel_rfl))⟩
  f31 := Tryz.func189.trans (congrArg some (by kernel_rfl))
  f32 := Tryz.func190.trans (congrArg some (by kernel_rfl))
  f33 := ⟨Tryz.f191.name, by decide, Tryz.func191.trans (congrArg some (by kernel_rfl))⟩
  f34 := ⟨Tryz.f192.name, by decide, Tryz.func192.trans (congrArg some (by kernel_rfl))⟩
  f35 := ⟨Tryz.f193.name, by decide, Tryz.func193.trans (congrArg some (by kernel_rfl))⟩
  f40 := ⟨Tryz.f194.name, by decide, Tryz.func194.trans (congrArg some (by kernel_rfl))⟩
  t0 := Tryz.underlying0
  a0 := Tryz.isAgg0
  z0 := Tryz.sizeOf0
  v0 := Tryz.zeroValue0
  t3 := Tryz.underlying3
  a3 := Tryz.isAgg3
  z3 := Tryz.sizeOf3
  v3 := Tryz.zeroValue3
  t4 := Tryz.underlying4
  a4 := Tryz.isAgg4
  z4 := Tryz.sizeOf4
  v4 := Tryz.zeroValue4
  t5 := Tryz.underlying5
  a5 := Tryz.isAgg5
  z5 := Tryz.sizeOf5
  v5 := Tryz.zeroValue5
  t9 := Tryz.underlying9
  a9 := Tryz.isAgg9
  z9 := Tryz.sizeOf9
  v9 := Tryz.zeroValue9
  t22 := Tryz.underlying73
  a22 := Tryz.isAgg73
  z22 := Tryz.sizeOf73
  v22 := Tryz.zeroValue73
  t23 := Tryz.underlying73
  a23 := Tryz.isAgg73
  z23 := Tryz.sizeOf73
  v23 := Tryz.zeroValue73
  t25 := Tryz.underlying3
  a25 := Tryz.isAgg3
  z25 := Tryz.sizeOf3
  v25 := Tryz.zeroValue3
  t32 := Tryz.underlying72
  a32 := Tryz.isAgg72
  z32 := Tryz.sizeOf72
  v32 := Tryz.zeroValue72
  t35 := Tryz.underlying215
  a35 := Tryz.isAgg215
  z35 := Tryz.sizeOf215
  v35 := Tryz.zeroValue215
  t36 := Tryz.underlying216
  a36 := Tryz.isAgg216
  z36 := Tryz.sizeOf216
  v36 := Tryz.zeroValue216
  t41 := Tryz.underlying220
  a41 := Tryz.isAgg220
  z41 := Tryz.sizeOf220
  v41 := Tryz.zeroValue220
  t44 := Tryz.underlying188
  a44 := Tryz.isAgg188
  z44 := Tryz.sizeOf188
  v44 := Tryz.zeroValue188
  t46 := Tryz.underlying224
  a46 := Tryz.isAgg224
  z46 := Tryz.sizeOf224
  v46 := Tryz.zeroValue224
  t53 := Tryz.underlying225
  a53 := Tryz.isAgg225
  z53 := Tryz.sizeOf225
  v53 := Tryz.zeroValue225
  t57 := Tryz.underlying124
  a57 := Tryz.isAgg124
  z57 := Tryz.sizeOf124
  v57 := Tryz.zeroValue124
  t63 := Tryz.underlying230
  a63 := Tryz.isAgg230
  z63 := Tryz.sizeOf230
  v63 := Tryz.zeroValue230
  t64 := Tryz.underlying119
  a64 := Tryz.isAgg119
  z64 := Tryz.sizeOf119
  v64 := Tryz.zeroValue119 }
end

section
open Go.RowKit Go.Maps
open Dk (zeros zeros_length)
open Jn (Chg)
theorem sreach_zero {s : Sto} {i : Int} (h : sreachE s i = 0) : s.over = false ∧ otherB s.dk.last.length s.a s.z i = true := by
  unfold sreachE at h
  split at h
  · cases h
  · split at h
    · rename_i h1 h2; exact ⟨by simpa using h1, h2⟩
    · cases h
structure RdAt (w : World) (b : Blk) (s : Sto) (W : World) : Prop where
  page : PageAt W w.heap.size zeros
  st : StoreAt W b s
  bel : Below w.heap.size w W
  lt : w.heap.size < W.heap.size
theorem rdAt_start {w : World} {b : Blk} {s : Sto} (h : StoreAt w b s) {W : World} (hb : Below (w.alloc (.cells zeroCells 68)).heap.size (w.alloc (.cells zeroCells 68)) W) : RdAt w b s W := by
  have hlt : w.heap.size < (w.alloc (.cells zeroCells 68)).heap.size := by simp
  exact ⟨(pageAt_zeros w 68).below hb hlt, (h.alloc _).below hb, ((Below.refl _ _).alloc (Nat.le_refl _) _).trans (hb.mono (by simp)), Nat.lt_of_lt_of_le hlt hb.size⟩
theorem RdAt.next {w : World} {b : Blk} {s : Sto} {W W' : World} (h : RdAt w b s W) (hb : Below W.heap.size W W') : RdAt w b s W' :=
  ⟨h.page.below hb h.lt, h.st.below hb, h.bel.trans (hb.mono h.bel.size), Nat.lt_of_lt_of_le h.lt hb.size⟩
theorem sread_any {w : World} {b : Blk} {s : Sto} (h : StoreAt w b s) (i : Int) : Calls Tryz.prog 76 #[.pointer (some ⟨b.s, 0, none⟩), .int .i64 i] w fun e w' => e = .returned (.tuple #[pageV (sreadP s i), .int .i64 (sreadE s i)]) ∧ Below w.heap.size w w' := by
  have HR := Lib.hid (sreach_any (h.alloc (.cells zeroCells 68)) i)
  have HS : Hid (∀ W, Below (w.alloc (.cells zeroCells 68)).heap.size (w.alloc (.cells zeroCells 68)) W → RdAt w b s W) := Lib.hid (fun W hb => rdAt_start h hb)
  rw [zeroCells_def] at HR
  by_cases c : sreachE s i = 0
  · obtain ⟨c1, c2⟩ := sreach_zero c
    have c3 := of_decide_eq_true c2
    obtain ⟨k, rfl⟩ := Int.eq_ofNat_of_zero_le c3.1
    have hk : k < s.dk.last.length := by omega
    have hk2 : k ≤ 1000 := by have := h.disk.ok.small; omega
    rw [c] at HR
    cases ht : s.step.getD k none with
    | some p =>
      have HP : Hid (sreadP s (k : Int) = p) := Lib.hid (by unfold sreadP sheld; rw [if_pos c, Int.toNat_natCast, ht]; rfl)
      have HE : Hid (sreadE s (k : Int) = 0) := Lib.hid (by unfold sreadE sheld; rw [if_pos c, Int.toNat_natCast, ht]; rfl)
      have HN := Lib.hid (h.ok.spg k p ht).1
      have HLK := Lib.hid (fun (W : World) (hW : RdAt w b s W) => hW.st.step.look k hk2)
      rw [ht] at HLK
      simp only [Option.getD_some, Option.isSome_some] at HLK
      rw [HP.out, HE.out]
      clear HP HE c c1 c2 c3 ht h hk hk2
      go_enter Tryz.func76, Tryz.ntmps76
      go_wp2_with fail
      refine HR.out.mono ?_
      rintro e w1 ⟨rfl, hB1⟩
      rw [← zeroCells_def] at hB1
      have HS1 := Lib.hid (HS.out _ hB1)
      clear HR HS hB1
      have c4 := HS1.out.st.c4
      have hlook := HLK.out w1 HS1.out
      go_wp2_with (first
        | ((with_reducible refine wpList_store_new rfl (.tmp 7) (.tmp 25) rfl rfl ?_ ?_ HN.out ?_); (exact rfl); (exact rfl); intro W2 hP hB2 hz2; clear hlook; have HS2 := Lib.hid (HS1.out.next hB2))
        | (with_reducible refine wpList_load_page hP rfl (.tmp 7) rfl rfl ?_)
        | (with_reducible refine wpList_store_page HS2.out.page HN.out rfl (.tmp 4) (.tmp 28) rfl rfl rfl ?_))
      exact bodyPost_ret (results_page_int _ 4 5 rfl _ (HS2.out.page.put _ HN.out) rfl) rfl ⟨rfl, below_setCells _ (Nat.le_refl _) _ _ _ HS2.out.bel⟩
    | none =>
      have HLT := Lib.hid (fun (W : World) (hW : RdAt w b s W) => hW.st.step.look k hk2)
      rw [ht] at HLT
      simp only [Option.getD_none, Option.isSome_none] at HLT
      cases hg : s.group.getD k none with
      | some p =>
        have HP : Hid (sreadP s (k : Int) = p) := Lib.hid (by unfold sreadP sheld; rw [if_pos c, Int.toNat_natCast, ht, hg]; rfl)
        have HE : Hid (sreadE s (k : Int) = 0) := Lib.hid (by unfold sreadE sheld; rw [if_pos c, Int.toNat_natCast, ht, hg]; rfl)
        have HN := Lib.hid (h.ok.gpg k p hg).1
        have HLK := Lib.hid (fun (W : World) (hW : RdAt w b s W) => hW.st.group.look k hk2)
        rw [hg] at HLK
        simp only [Option.getD_some, Option.isSome_some] at HLK
        rw [HP.out, HE.out]
        clear HP HE c c1 c2 c3 ht hg h hk hk2
        go_enter Tryz.func76, Tryz.ntmps76
        go_wp2_with fail
        refine HR.out.mono ?_
        rintro e w1 ⟨rfl, hB1⟩
        rw [← zeroCells_def] at hB1
        have HS1 := Lib.hid (HS.out _ hB1)
        clear HR HS hB1
        have c4 := HS1.out.st.c4
        have hlook := HLT.out w1 HS1.out
        go_wp2_with (first
          | ((with_reducible refine wpList_store_new rfl (.tmp 7) (.tmp 25) rfl rfl ?_ ?_ zeros_length ?_); (exact rfl); (exact rfl); intro W2 hP hB2 hz2; clear hlook; have HS2 := Lib.hid (HS1.out.next hB2); clear hP hB2 hz2; have c5 := HS2.out.st.c5; have hlook2 := HLK.out W2 HS2.out)
          | ((with_reducible refine wpList_store_new rfl (.tmp 9) (.tmp 36) rfl rfl ?_ ?_ HN.out ?_); (exact rfl); (exact rfl); intro W3 hP hB3 hz3; clear hlook2; have HS3 := Lib.hid (HS2.out.next hB3))
          | (with_reducible refine wpList_load_page hP rfl (.tmp 9) rfl rfl ?_)
          | (with_reducible refine wpList_store_page HS3.out.page HN.out rfl (.tmp 4) (.tmp 39) rfl rfl rfl ?_))
        exact bodyPost_ret (results_page_int _ 4 5 rfl _ (HS3.out.page.put _ HN.out) rfl) rfl ⟨rfl, below_setCells _ (Nat.le_refl _) _ _ _ HS3.out.bel⟩
      | none =>
        have HP : Hid (sreadP s (k : Int) = Dk.readP s.dk (k : Int)) := Lib.hid (by unfold sreadP sheld; rw [if_pos c, Int.toNat_natCast, ht, hg]; rfl)
        have HE : Hid (sreadE s (k : Int) = Dk.reachE s.dk (k : Int)) := Lib.hid (by unfold sreadE sheld; rw [if_pos c, Int.toNat_natCast, ht, hg]; rfl)
        have HN := Lib.hid (Dk.readP_len h.disk.ok (k : Int))
        have HLK := Lib.hid (fun (W : World) (hW : RdAt w b s W) => hW.st.group.look k hk2)
        rw [hg] at HLK
        simp only [Option.getD_none, Option.isSome_none] at HLK
        have HRD := Lib.hid (fun (W : World) (hW : RdAt w b s W) => read_any hW.st.disk (k : Int))
        rw [HP.out, HE.out]
        clear HP HE c c1 c2 c3 ht hg h hk hk2
        generalize Dk.readP s.dk (k : Int) = p at HN HRD ⊢
        generalize Dk.reachE s.dk (k : Int) = E at HRD ⊢
        go_enter Tryz.func76, Tryz.ntmps76
        go_wp2_with fail
        refine HR.out.mono ?_
        rintro e w1 ⟨rfl, hB1⟩
        rw [← zeroCells_def] at hB1
        have HS1 := Lib.hid (HS.out _ hB1)
        clear HR HS hB1
        have c4 := HS1.out.st.c4
        have hlook := HLT.out w1 HS1.out
        go_wp2_with (first
          | ((with_reducible refine wpList_store_new rfl (.tmp 7) (.tmp 25) rfl rfl ?_ ?_ zeros_length ?_); (exact rfl); (exact rfl); intro W2 hP hB2 hz2; clear hlook; have HS2 := Lib.hid (HS1.out.next hB2); clear hP hB2 hz2; have c5 := HS2.out.st.c5; have hlook2 := HLK.out W2 HS2.out)
          | ((with_reducible refine wpList_store_new rfl (.tmp 9) (.tmp 36) rfl rfl ?_ ?_ zeros_length ?_); (exact rfl); (exact rfl); intro W3 hP hB3 hz3; clear hlook2; have HS3 := Lib.hid (HS2.out.next hB3); clear hP hB3 hz3; have c1 := HS3.out.st.c1))
        refine (HRD.out _ HS3.out).mono ?_
        rintro e W4 ⟨rfl, hB4⟩
        have HS4 := Lib.hid (HS3.out.next hB4)
        clear hB4
        go_wp2_with (with_reducible refine wpList_store_page HS4.out.page HN.out rfl (.tmp 4) (.tmp 46) rfl rfl rfl ?_)
        exact bodyPost_ret (results_page_int _ 4 5 rfl _ (HS4.out.page.put _ HN.out) rfl) rfl ⟨rfl, below_setCells _ (Nat.le_refl _) _ _ _ HS4.out.bel⟩
  · have HP : Hid (sreadP s i = zeros) := Lib.hid (by unfold sreadP; rw [if_neg c])
    have HE : Hid (sreadE s i = sreachE s i) := Lib.hid (by unfold sreadE; rw [if_neg c])
    rw [HP.out, HE.out]
    have hne : (sreachE s i == 0) = false := by simpa using c
    have hne2 : (sreachE s i != 0) = true := by simpa using c
    generalize sreachE s i = E at HR hne hne2 ⊢
    clear c h HP HE
    go_enter Tryz.func76, Tryz.ntmps76
    go_wp2_with fail
    refine HR.out.mono ?_
    rintro e w1 ⟨rfl, hB1⟩
    rw [← zeroCells_def] at hB1
    have HS1 := Lib.hid (HS.out _ hB1)
    clear HR HS hB1
    go_wp2_with ((with_reducible refine wpList_store_page HS1.out.page zeros_length rfl (.tmp 4) (.tmp 16) rfl rfl ?_ ?_); (exact rfl))
    exact bodyPost_ret (results_page_int _ 4 5 rfl _ (HS1.out.page.put _ zeros_length) rfl) rfl ⟨rfl, below_setCells _ (Nat.le_refl _) _ _ _ HS1.out.bel⟩
structure PtAt (w : World) (b : Blk) (s : Sto) (p : List UInt8) (W : World) : Prop where
  page : PageAt W w.heap.size p
  st : StoreAt W b s
  bel : Below w.heap.size w W
  lt : w.heap.size < W.heap.size
theorem PtAt.next {w : World} {b : Blk} {s : Sto} {p : List UInt8} {W W' : World} (h : PtAt w b s p W) (hb : Below W.heap.size W W') : PtAt w b s p W' :=
  ⟨h.page.below hb h.lt, h.st.below hb, h.bel.trans (hb.mono h.bel.size), Nat.lt_of_lt_of_le h.lt hb.size⟩
theorem ptAt_start {w : World} {b : Blk} {s : Sto} (h : StoreAt w b s) {p : List UInt8} (hp : p.length = 64) : PtAt w b s p (w.alloc (.cells (byteVals p).toArray 68)) :=
  ⟨pageAt_new w p 68 hp, h.alloc _, (Below.refl _ _).alloc (Nat.le_refl _) _, by simp⟩
theorem sput_any {w : World} {b : Blk} {s : Sto} (h : StoreAt w b s) (i : Int) (p : List UInt8) (hp : p.length = 64) : Calls Tryz.prog 81 #[.pointer (some ⟨b.s, 0, none⟩), .int .i64 i, pageV p] w fun e w' =>
    e = .returned (.int .i64 (sputE s i)) ∧ StoreAt w' b (sput s i p) ∧ Only [b.t] w w' := by
  have HP := Lib.hid hp
  have HS := Lib.hid (ptAt_start h hp)
  have HR := Lib.hid (sreach_any HS.out.st i)
  have HT := Lib.hid h.ok
  have HSM := Lib.hid h.disk.ok.small
  unfold pageV
  by_cases c : sreachE s i = 0
  · obtain ⟨c1, c2⟩ := sreach_zero c
    have c3 := of_decide_eq_true c2
    obtain ⟨k, rfl⟩ := Int.eq_ofNat_of_zero_le c3.1
    have hk : k < s.dk.last.length := by omega
    have hk2 : k ≤ 1000 := by have := h.disk.ok.small; omega
    have HK := Lib.hid hk
    have HC2 := Lib.hid c2
    rw [c] at HR
    have HLK := Lib.hid (fun (W : World) (hW : PtAt w b s p W) => hW.st.step.look k hk2)
    obtain ⟨q, hj, _⟩ := h.ja
    have HRM := Lib.hid (fun (W : World) (hW : PtAt w b s p W) (n : Nat) => show Calls Tryz.prog 120 #[.pointer (some ⟨b.j, 0, none⟩)] (W.drewN n) fun e w' => e = .returned (.int .i64 (s.r : Int)) ∧ w' = W.drewN n from by
      obtain ⟨q', hj', _⟩ := (hW.st.drewN n).ja
      exact (mroom_any hj' hW.st.ok.room).mono fun e w' ⟨h1, h2⟩ => ⟨h1, h2.symm⟩)
    have HLN := Lib.hid (fun (W : World) (hW : PtAt w b s p W) (n : Nat) (ty : TypeId) => (hW.st.drewN n).step.len ty)
    clear h hp hj
    by_cases f : (s.step.getD k none).isSome = false ∧ s.r ≤ cntO s.step
    · have HE : Hid (sputE s (k : Int) = 28) := Lib.hid (by unfold sputE; rw [if_pos c, Int.toNat_natCast, if_pos f])
      have HF : Hid (sput s (k : Int) p = s) := Lib.hid (by unfold sput; rw [HE.out]; rfl)
      obtain ⟨f1, f2⟩ := f
      rw [HE.out, HF.out]
      have f3 : (s.r : Int) ≤ (cntO s.step : Int) := by omega
      rw [f1] at HLK
      have HG : Hid (s.step.getD k none = none) := Lib.hid (by cases e : s.step.getD k none with | none => rfl | some x => rw [e] at f1; cases f1)
      rw [HG.out] at HLK
      simp only [Option.getD_none] at HLK
      unfold cntO at f3
      generalize List.countP (fun x => x.isSome) s.step = N at HLN f3
      clear HE HF f1 f2 c c1 c2 c3 hk hk2 HG
      go_enter Tryz.func81, Tryz.ntmps81
      go_wp2_with fail
      generalize w.alloc (.cells (byteVals p).toArray 68) = w1 at HS HR ⊢
      refine HR.out.mono ?_
      rintro e w2 ⟨rfl, hB2⟩
      have HS2 := Lib.hid (HS.out.next hB2)
      clear hB2 HR HS
      have c4 := HS2.out.st.c4
      have hlook := HLK.out w2 HS2.out
      go_wp2_with (first
        | ((with_reducible refine wpList_store_new rfl (.tmp 8) (.tmp 23) rfl rfl ?_ ?_ zeros_length ?_); (exact rfl); (exact rfl); intro W3 hP hB3 hz3; clear hlook; have HS3 := Lib.hid (HS2.out.next hB3); clear hP hB3 hz3 c4))
      have c4 := HS3.out.st.c4
      have c0 := HS3.out.st.c0
      have hln := HLN.out W3 HS3.out
      go_quiet ((go_at_call 120; refine Calls.quiet_of_same (HRM.out W3 HS3.out _)))
      go_wp2
      go_ret
      exact ⟨rfl, HS3.out.st.drewN _, Only.below (HS3.out.bel.trans (below_drewN _ _))⟩
    · have HE : Hid (sputE s (k : Int) = 0) := Lib.hid (by unfold sputE; rw [if_pos c, Int.toNat_natCast, if_neg f])
      have HF : Hid (sput s (k : Int) p = { s with step := s.step.set k (some p) }) := Lib.hid (by unfold sput; rw [if_pos HE.out, Int.toNat_natCast])
      rw [HE.out, HF.out]
      have HOK := Lib.hid (sput_ok HT.out HP.out HC2.out f)
      have HST := Lib.hid (show k < s.step.length by rw [HT.out.slen]; exact HK.out)
      have HST2 := Lib.hid (show s.step.length ≤ 1000 by rw [HT.out.slen]; have := HSM.out; omega)
      cases g : s.step.getD k none with
      | some x =>
        rw [g] at HLK
        simp only [Option.getD_some, Option.isSome_some] at HLK
        have HX := Lib.hid (HT.out.spg k x g).1
        clear HE HF c c1 c2 c3 hk hk2 f g
        go_enter Tryz.func81, Tryz.ntmps81
        go_wp2_with fail
        generalize w.alloc (.cells (byteVals p).toArray 68) = w1 at HS HR ⊢
        refine HR.out.mono ?_
        rintro e w2 ⟨rfl, hB2⟩
        have HS2 := Lib.hid (HS.out.next hB2)
        clear hB2 HR HS
        have c4 := HS2.out.st.c4
        have hlook := HLK.out w2 HS2.out
        go_wp2_with (first
          | ((with_reducible refine wpList_store_new rfl (.tmp 8) (.tmp 23) rfl rfl ?_ ?_ HX.out ?_); (exact rfl); (exact rfl); intro W3 hP hB3 hz3; clear hlook; have HS3 := Lib.hid (HS2.out.next hB3); clear hP hB3 hz3 c4))
        have c4 := HS3.out.st.c4
        go_quiet (fail)
        have HS4 := Lib.hid (HS3.out.next (below_drewN _ nq))
        generalize W3.drewN nq = w4 at HS4 ⊢
        have c4' : w4.drew.cell? ⟨b.s, 4, none⟩ = some (.map (some b.t)) := HS4.out.st.c4
        go_wp2_with fail
        refine wp_region_still_tail 6 (by kernel_rfl) (by kernel_rfl) ?_
        simp only [List.take_succ_cons, List.take_zero, List.drop_succ_cons, List.drop_zero]
        change wpStill _ _ w4.drew (fun a' => wpList _ _ _ _ a' w4.drew) _ _
        still_step
        still_step
        still_step
        still_step
        still_step
        refine wpStill_load_page (HS4.out.page.block rfl) rfl (.tmp 5) rfl rfl ?_
        refine wpStill_nil ?_
        refine wpList_map_store (HS4.out.st.step.block (w' := w4.drew) rfl) k HST.out HST2.out HP.out rfl (.tmp 43) (.tmp 44) (.tmp 45) rfl rfl rfl rfl ?_
        intro w5 hm5 ht5
        go_wp2
        go_ret
        have ho : Only [b.t] w4.drew w5 := Only.grown ht5.grown (by simp)
        exact ⟨rfl, HS4.out.st.drew.setStep ho hm5 HOK.out, (Only.below HS4.out.bel).drew.trans ho⟩
      | none =>
        rw [g] at HLK
        simp only [Option.getD_none, Option.isSome_none] at HLK
        have f3 : ¬ ((s.r : Int) ≤ (cntO s.step : Int)) := fun q => f ⟨by rw [g]; rfl, by omega⟩
        have f4 : decide ((s.r : Int) ≤ (cntO s.step : Int)) = false := decide_eq_false f3
        unfold cntO at f3 f4
        generalize List.countP (fun x => x.isSome) s.step = N at HLN f3 f4
        clear HE HF c c1 c2 c3 hk hk2 f g
        go_enter Tryz.func81, Tryz.ntmps81
        go_wp2_with fail
        generalize w.alloc (.cells (byteVals p).toArray 68) = w1 at HS HR ⊢
        refine HR.out.mono ?_
        rintro e w2 ⟨rfl, hB2⟩
        have HS2 := Lib.hid (HS.out.next hB2)
        clear hB2 HR HS
        have c4 := HS2.out.st.c4
        have hlook := HLK.out w2 HS2.out
        go_wp2_with (first
          | ((with_reducible refine wpList_store_new rfl (.tmp 8) (.tmp 23) rfl rfl ?_ ?_ zeros_length ?_); (exact rfl); (exact rfl); intro W3 hP hB3 hz3; clear hlook; have HS3 := Lib.hid (HS2.out.next hB3); clear hP hB3 hz3 c4))
        have c4 := HS3.out.st.c4
        have c0 := HS3.out.st.c0
        have hln := HLN.out W3 HS3.out
        go_quiet ((go_at_call 120; refine Calls.quiet_of_same (HRM.out W3 HS3.out _)))
        have HS4 := Lib.hid (HS3.out.next (below_drewN _ nq))
        generalize W3.drewN nq = w4 at HS4 ⊢
        have c4' : w4.drew.cell? ⟨b.s, 4, none⟩ = some (.map (some b.t)) := HS4.out.st.c4
        go_wp2_with fail
        refine wp_region_still_tail 6 (by kernel_rfl) (by kernel_rfl) ?_
        simp only [List.take_succ_cons, List.take_zero, List.drop_succ_cons, List.drop_zero]
        change wpStill _ _ w4.drew (fun a' => wpList _ _ _ _ a' w4.drew) _ _
        still_step
        still_step
        still_step
        still_step
        still_step
        refine wpStill_load_page (HS4.out.page.block rfl) rfl (.tmp 5) rfl rfl ?_
        refine wpStill_nil ?_
        refine wpList_map_store (HS4.out.st.step.block (w' := w4.drew) rfl) k HST.out HST2.out HP.out rfl (.tmp 43) (.tmp 44) (.tmp 45) rfl rfl rfl rfl ?_
        intro w5 hm5 ht5
        go_wp2
        go_ret
        have ho : Only [b.t] w4.drew w5 := Only.grown ht5.grown (by simp)
        exact ⟨rfl, HS4.out.st.drew.setStep ho hm5 HOK.out, (Only.below HS4.out.bel).drew.trans ho⟩
  · have HE : Hid (sputE s i = sreachE s i) := Lib.hid (by unfold sputE; rw [if_neg c])
    have HF : Hid (sput s i p = s) := Lib.hid (by unfold sput; rw [HE.out, if_neg c])
    rw [HE.out, HF.out]
    have hne2 : (sreachE s i == 0) = false := by simpa using c
    have hne3 : (sreachE s i != 0) = true := by simpa using c
    generalize sreachE s i = E at HR hne2 hne3 ⊢
    clear c HE HF h hp
    go_enter Tryz.func81, Tryz.ntmps81
    go_wp2_with fail
    generalize w.alloc (.cells (byteVals p).toArray 68) = w1 at HS HR ⊢
    refine HR.out.mono ?_
    rintro e w2 ⟨rfl, hB2⟩
    have HS2 := Lib.hid (HS.out.next hB2)
    clear hB2 HR HS
    go_wp2
    go_ret
    exact ⟨rfl, HS2.out.st, Only.below HS2.out.bel⟩
end

section
open Go.RowKit Go.Maps
open Dk (zeros zeros_length)
open Jn (Chg)
def mixP (g t : Pgs) (left : Nat → Bool) : Pgs := (List.range g.length).map fun i => if left i then g.getD i none else (t.getD i none).or (g.getD i none)
theorem mixP_length (g t : Pgs) (left : Nat → Bool) : (mixP g t left).length = g.length := by unfold mixP; simp
theorem mixP_at (g t : Pgs) (left : Nat → Bool) (i : Nat) (hi : i < g.length) : (mixP g t left).getD i none = if left i then g.getD i none else (t.getD i none).or (g.getD i none) := by
  unfold mixP
  rw [List.getD_eq_getElem?_getD, List.getElem?_map, List.getElem?_range hi]; rfl
theorem mixP_start (g t : Pgs) (left : Nat → Bool) (h : ∀ i, i < g.length → left i = false → t.getD i none = none) : mixP g t left = g := by
  refine pgs_ext (mixP_length _ _ _) (fun i hi => ?_)
  rw [mixP_length] at hi
  rw [mixP_at _ _ _ _ hi]
  cases e : left i with
  | true => rfl
  | false => rw [h i hi e]; rfl
theorem mixP_end (g t : Pgs) (left : Nat → Bool) (h : ∀ i, left i = false) : mixP g t left = joinP g t := by
  unfold mixP joinP
  apply List.map_congr_left
  intro i _
  rw [h i]; rfl
theorem mixP_step (g t : Pgs) (left left' : Nat → Bool) (i : Nat) (p : List UInt8) (hi : i < g.length) (hp : t.getD i none = some p) (h1 : left' i = false) (h2 : ∀ j, j ≠ i → left' j = left j) : (mixP g t left).set i (some p) = mixP g t left' := by
  refine pgs_ext (by rw [List.length_set, mixP_length, mixP_length]) (fun j hj => ?_)
  rw [List.length_set, mixP_length] at hj
  rw [pgs_set_at _ _ _ _ (by rw [mixP_length]; exact hi), mixP_at _ _ left' _ hj]
  by_cases e : i = j
  · subst e
    rw [if_pos rfl, h1, hp]; rfl
  · rw [if_neg e, mixP_at _ _ left _ hj, h2 j (fun q => e q.symm)]
theorem cameP {c : Pgs} {D : DataW (List UInt8)} (hD : MapIs D c) {x : Int} {p : List UInt8} {kl : Lit} {y : DataW (List UInt8) × List MemPlace} (hkey : keyOf Tryz.prog 3 (.int .i64 x) = some kl) (hl : Maps.has D kl = true) (hv : pageR (pageV p) = some y) (hat : ∀ zd, D.atKey kl zd = y.1) :
    ∃ i : Nat, x = (i : Int) ∧ kl = .int .i64 (i : Int) ∧ i < c.length ∧ c.getD i none = some p ∧ p.length = 64 := by
  obtain ⟨x', ex, rfl, _⟩ := Maps.keyOf_int_inv Tryz.underlying3 hkey
  injection ex with _ ex
  subst ex
  rw [hD.has] at hl
  have h0 : 0 ≤ x ∧ (c.getD x.toNat none).isSome = true := by simpa using hl
  obtain ⟨i, rfl⟩ := Int.eq_ofNat_of_zero_le h0.1
  rw [Int.toNat_natCast] at h0
  obtain ⟨q, hq⟩ := Option.isSome_iff_exists.1 h0.2
  obtain ⟨q', hq', e1, e2⟩ := pageR_inv hv
  have hcq := pageV_inj e1
  have := hD.held i q hq .nil
  rw [hat, e2] at this
  injection this with this
  exact ⟨i, rfl, rfl, pgs_lt hq, by rw [hq, hcq, this], by rw [hcq]; exact hq'⟩
theorem start_left {g t : Pgs} {D : DataW (List UInt8)} (hD : MapIs D t) : mixP g t (fun i => Maps.has D (.int .i64 (i : Int))) = g := mixP_start _ _ _ (fun i _ e => by
  rw [hD.has, Int.toNat_natCast] at e
  cases hc : t.getD i none with
  | none => rfl
  | some p => rw [hc] at e; simp at e)
theorem step_left {g t : Pgs} {left : Lit → Bool} {i : Nat} {p : List UInt8} (hi : i < g.length) (hp : t.getD i none = some p) : (mixP g t (fun i => left (.int .i64 (i : Int)))).set i (some p) = mixP g t (fun j => left (.int .i64 (j : Int)) && !(Lit.int .i64 (j : Int)).sameKey (.int .i64 (i : Int))) :=
  mixP_step _ _ _ _ i p hi hp (by simp [Lit.sameKey]) (fun j hj => by
    have hne : (j : Int) ≠ (i : Int) := by omega
    simp [Lit.sameKey, hne])
structure CopyAt (w0 : World) (g t r : Nat) (cg ct : Pgs) (D : DataW (List UInt8)) (left : Lit → Bool) (cnt : Nat) (w : World) : Prop where
  rg : w.ranges Tryz.prog 3 pageR t r (Maps.size D) D left cnt
  map : MapAt w g (mixP cg ct (fun i => left (.int .i64 (i : Int))))
  only : Only [g] w0 w
  sub : ∀ kl, left kl = true → Maps.has D kl = true
theorem CopyAt.next {w0 w w1 w2 : World} {g t r : Nat} {cg ct : Pgs} {D : DataW (List UInt8)} {left left' : Lit → Bool} {cnt cnt' : Nat} (h : CopyAt w0 g t r cg ct D left cnt w) (hr : w0.heap.size ≤ r) (hg : g < w0.heap.size)
    (hrg : w1.ranges Tryz.prog 3 pageR t r (Maps.size D) D left' cnt') (hgr : w.grownBy w1 (some r)) (hb : Below w1.heap.size w1 w2) :
    w2.ranges Tryz.prog 3 pageR t r (Maps.size D) D left' cnt' ∧ MapAt w2 g (mixP cg ct (fun i => left (.int .i64 (i : Int)))) ∧ Only [g] w0 w2 := by
  refine ⟨hrg.kept (row := none) ⟨hb.os, hb.tape, hb.output, hb.size, fun k hk _ => hb.block k hk⟩ (by simp) (by simp), ?_, (h.only.newer (Only.grown hgr (by simp)) hr).trans (Only.below hb)⟩
  have hlt : g < w.heap.size := Nat.lt_of_lt_of_le hg h.only.size
  exact (h.map.block (hgr.block g hlt (fun e => by injection e with e; omega))).block (hb.block g (Nat.lt_of_lt_of_le hlt hgr.size))
theorem copy_step {w0 w2 w3 : World} {g t r : Nat} {cg ct : Pgs} {D : DataW (List UInt8)} {left : Lit → Bool} {cnt' i : Nat} {p : List UInt8} (hgt : g ≠ t) (hr : w0.heap.size ≤ r) (hg : g < w0.heap.size) (hsub : ∀ kl, left kl = true → Maps.has D kl = true)
    (hrg : w2.ranges Tryz.prog 3 pageR t r (Maps.size D) D (fun z => left z && !z.sameKey (.int .i64 (i : Int))) cnt') (ho : Only [g] w0 w2) (hi : i < cg.length) (hp : ct.getD i none = some p)
    (hm : MapAt w3 g ((mixP cg ct (fun i => left (.int .i64 (i : Int)))).set i (some p))) (ht : w2.mapTurned w3 g) : CopyAt w0 g t r cg ct D (fun z => left z && !z.sameKey (.int .i64 (i : Int))) cnt' w3 where
  rg := hrg.kept (row := some g) ht.grown (fun e => by injection e with e; exact hgt e.symm) (fun e => by injection e with e; omega)
  map := by rw [← step_left hi hp]; exact hm
  only := ho.trans (Only.grown ht.grown (by simp))
  sub := fun kl e => hsub kl (by simp at e; exact e.1)
theorem copy_any {w : World} {g t : Nat} {cg ct : Pgs} (hg : MapAt w g cg) (ht : MapAt w t ct) (hgt : g ≠ t) (hl : ct.length = cg.length) (hl2 : cg.length ≤ 1000) :
    Calls Tryz.prog 122 #[.map (some g), .map (some t)] w fun e w' => e = .returned (.tuple #[]) ∧ MapAt w' g (joinP cg ct) ∧ Only [g] w w' := by
  obtain ⟨D, hown, hD⟩ := ht
  have HD := Lib.hid hD
  have HG := Lib.hid hg
  have HGL := Lib.hid hg.lt
  have HGT := Lib.hid hgt
  have HL := Lib.hid hl
  have HL2 := Lib.hid hl2
  clear hD hg hgt hl hl2
  go_enter Tryz.func122, Tryz.ntmps122
  go_wp2_with (at_range; refine wpList_range_own _ rfl _ 102 rfl 3 68 keyLaw Tryz.underlying102 pageR t (Maps.size D) D rfl hown ?_; intro w0 hrg0 hg0 hs0)
  go_frame
  have HST : Hid (CopyAt w g t w.heap.size cg ct D (Maps.has D) (Maps.size D) w0) := Lib.hid ⟨hrg0, by rw [start_left HD.out]; exact HG.out.block (hg0.block g HGL.out (by simp)), Only.grownNone hg0, fun _ h => h⟩
  clear hrg0 hg0 hs0 hown
  go_loopw [8] (fun _ wr => ∃ (left : Lit → Bool) (cnt : Nat), CopyAt w g t w.heap.size cg ct D left cnt wr) (fun _ wr => wr.rangeLeft t w.heap.size)
  case atStart => exact ⟨_, _, HST.out⟩
  case round =>
    obtain ⟨left, cnt, hfl⟩ := hrel
    have HFL := Lib.hid hfl
    have hrg := hfl.rg
    clear hfl HST
    go_wp2_with (at_next; refine wpList_next_ranges _ rfl _ rfl 3 keyLaw pageR (Value.int .i64) pageV invK invV t w.heap.size (Maps.size D) D left cnt rfl hrg ?_ ?_)
    · intro _ hl0
      have HL0 := Lib.hid hl0
      clear hl0
      go_wp2
      go_end0
      refine ⟨rfl, ?_, HFL.out.only⟩
      rw [← mixP_end cg ct (fun i => left (.int .i64 (i : Int))) (fun i => HL0.out _)]
      exact HFL.out.map
    · intro x c kl y1 y2 w2 cnt2 hkey hlx hv hat hrg2 hlt hg2 hs2 hen
      obtain ⟨i, rfl, rfl, hi, hci, hcl⟩ := cameP (y := (y1, y2)) HD.out hkey (HFL.out.sub _ hlx) hv hat
      have HI : Hid (i < cg.length) := Lib.hid (by rw [← HL.out]; exact hi)
      have HCI := Lib.hid hci
      have HCL := Lib.hid hcl
      have HNX := Lib.hid (fun (W : World) (hb : Below w2.heap.size w2 W) => HFL.out.next (Nat.le_refl _) HGL.out hrg2 hg2 hb)
      have HLT := Lib.hid hlt
      clear hkey hlx hv hat hci hcl hi hs2 hlt hg2
      go_wp2_with (first
        | ((with_reducible refine wpList_store_new rfl (.tmp 5) (.tmp 12) rfl rfl ?_ ?_ HCL.out ?_); (exact rfl); (exact rfl); intro W2 hP hB2 hz2; have HQ := Lib.hid (HNX.out W2 hB2); clear hen hB2 hz2)
        | (with_reducible refine wpList_load_page hP rfl (.tmp 5) rfl rfl ?_)
        | (at_mapUpdate; go_must (refine wpList_map_store HQ.out.2.1 i (by rw [mixP_length]; exact HI.out) (by rw [mixP_length]; exact HL2.out) HCL.out rfl (.tmp 13) (.tmp 14) (.tmp 15) rfl rfl rfl rfl ?_); intro W3 hm3 ht3; have HC3 := Lib.hid (copy_step HGT.out (Nat.le_refl _) HGL.out HFL.out.sub HQ.out.1 HQ.out.2.2 HI.out HCI.out hm3 ht3); clear hm3 ht3))
      go_frame
      go_wp2
      go_roundw
      case rel => exact ⟨_, _, HC3.out⟩
      case measure => rw [HC3.out.rg.left_eq, hrg.left_eq]; exact HLT.out
structure TogAt (w0 : World) (t r : Nat) (D : DataW (List UInt8)) (left : Lit → Bool) (cnt : Nat) (w : World) : Prop where
  rg : w.ranges Tryz.prog 3 pageR t r (Maps.size D) D left cnt
  bel : Below w0.heap.size w0 w
  sub : ∀ kl, left kl = true → Maps.has D kl = true
theorem TogAt.next {w0 w w1 w2 : World} {t r : Nat} {D : DataW (List UInt8)} {left : Lit → Bool} {cnt cnt' i : Nat} (h : TogAt w0 t r D left cnt w) (hr : w0.heap.size ≤ r)
    (hrg : w1.ranges Tryz.prog 3 pageR t r (Maps.size D) D (fun z => left z && !z.sameKey (.int .i64 (i : Int))) cnt') (hgr : w.grownBy w1 (some r)) (hb : Below w1.heap.size w1 w2) : TogAt w0 t r D (fun z => left z && !z.sameKey (.int .i64 (i : Int))) cnt' w2 where
  rg := hrg.kept (row := none) ⟨hb.os, hb.tape, hb.output, hb.size, fun k hk _ => hb.block k hk⟩ (by simp) (by simp)
  bel := (h.bel.trans ((Only.grown (l := [r]) hgr (by simp)).toBelow h.bel.size (fun k hk => by rw [List.mem_singleton] at hk; omega))).trans (hb.mono (Nat.le_trans h.bel.size hgr.size))
  sub := fun kl e => h.sub kl (by simp at e; exact e.1)
theorem cnt_mix {g t : Pgs} {left : Lit → Bool} {i : Nat} {p : List UInt8} (hi : i < g.length) (hp : t.getD i none = some p) (hl : left (.int .i64 (i : Int)) = true) :
    cntO (mixP g t (fun j => left (.int .i64 (j : Int)) && !(Lit.int .i64 (j : Int)).sameKey (.int .i64 (i : Int)))) = if (g.getD i none).isSome then cntO (mixP g t (fun i => left (.int .i64 (i : Int)))) else cntO (mixP g t (fun i => left (.int .i64 (i : Int)))) + 1 := by
  rw [← step_left hi hp, cntO_set _ _ _ (by rw [mixP_length]; exact hi), mixP_at _ _ _ _ hi, hl]; rfl
theorem cntO_le (c : Pgs) : cntO c ≤ c.length := List.countP_le_length
theorem stog_any {w : World} {b : Blk} {s : Sto} (h : StoreAt w b s) : Calls Tryz.prog 121 #[.pointer (some ⟨b.s, 0, none⟩)] w fun e w' => e = .returned (.int .i64 (stog s : Int)) ∧ Below w.heap.size w w' := by
  have HS := Lib.hid h
  have c4 := h.c4
  have c5 := h.c5
  have hlen := h.group.len
  obtain ⟨D, hown, hD⟩ := h.step
  have HD := Lib.hid hD
  have HL : Hid (s.step.length = s.group.length) := Lib.hid (by rw [h.ok.slen, h.ok.glen])
  have HN : Hid (s.group.length ≤ 1000) := Lib.hid (by rw [h.ok.glen]; have := h.disk.ok.small; omega)
  have HST0 : Hid (cntO (mixP s.group s.step (fun i => Maps.has D (.int .i64 (i : Int)))) = List.countP (fun x => x.isSome) s.group) := Lib.hid (by rw [start_left HD.out]; rfl)
  clear h hD
  generalize List.countP (fun x => x.isSome) s.group = n0 at hlen HST0
  go_enter Tryz.func121, Tryz.ntmps121
  go_wp2_with (at_range; refine wpList_range_own _ rfl _ 102 rfl 3 68 keyLaw Tryz.underlying102 pageR b.t (Maps.size D) D rfl hown ?_; intro w0 hrg0 hg0 hs0)
  go_frame
  have HST : Hid (TogAt w b.t w.heap.size D (Maps.has D) (Maps.size D) w0) := Lib.hid ⟨hrg0, (Only.grownNone (l := []) hg0).toBelow (Nat.le_refl _) (by simp), fun _ h => h⟩
  clear hrg0 hg0 hs0 hown hlen c4 c5
  go_loopw [3] (fun i wr => ∃ (left : Lit → Bool) (cnt : Nat), i = .int .i64 (cntO (mixP s.group s.step (fun i => left (.int .i64 (i : Int)))) : Int) ∧ TogAt w b.t w.heap.size D left cnt wr) (fun _ wr => wr.rangeLeft b.t w.heap.size)
  case atStart => exact ⟨_, _, by rw [HST0.out], HST.out⟩
  case round =>
    obtain ⟨left, cnt, rfl, hfl⟩ := hrel
    have HFL := Lib.hid hfl
    have hrg := hfl.rg
    have HW := Lib.hid (HS.out.below hfl.bel)
    clear hfl HST
    obtain ⟨N, hNN⟩ : ∃ N, cntO (mixP s.group s.step (fun i => left (.int .i64 (i : Int)))) = N := ⟨_, rfl⟩
    have HNN := Lib.hid hNN
    have hN : N ≤ 1000 := by rw [← hNN]; exact Nat.le_trans (cntO_le _) (by rw [mixP_length]; exact HN.out)
    rw [hNN]
    clear hNN
    go_wp2_with (at_next; refine wpList_next_ranges _ rfl _ rfl 3 keyLaw pageR (Value.int .i64) pageV invK invV b.t w.heap.size (Maps.size D) D left cnt rfl hrg ?_ ?_)
    · intro _ hl0
      have HL0 := Lib.hid hl0
      clear hl0
      go_wp2
      go_ret
      refine ⟨?_, HFL.out.bel⟩
      unfold stog
      rw [← mixP_end s.group s.step (fun i => left (.int .i64 (i : Int))) (fun i => HL0.out _), HNN.out]
      rfl
    · intro x c kl y1 y2 w2 cnt2 hkey hlx hv hat hrg2 hlt hg2 hs2 hen
      obtain ⟨i, rfl, rfl, hi, hci, hcl⟩ := cameP (y := (y1, y2)) HD.out hkey (HFL.out.sub _ hlx) hv hat
      have HI : Hid (i < s.group.length) := Lib.hid (by rw [← HL.out]; exact hi)
      have hi2 : i ≤ 1000 := by have := HI.out; have := HN.out; omega
      have HCM := Lib.hid (cnt_mix HI.out hci hlx)
      rw [HNN.out] at HCM
      have HNX := Lib.hid (fun (W : World) (hb : Below w2.heap.size w2 W) => HFL.out.next (Nat.le_refl _) hrg2 hg2 hb)
      have HLT := Lib.hid hlt
      have HW2 := Lib.hid (HS.out.below (HFL.out.next (Nat.le_refl _) hrg2 hg2 (Below.refl _ _)).bel)
      have c5 := HW2.out.c5
      have hlook := HW2.out.group.look i hi2
      have HGP := Lib.hid (fun p (e : s.group.getD i none = some p) => (HS.out.ok.gpg i p e).1)
      clear hkey hlx hv hat hci hcl hi hs2 hlt hg2
      cases hgi : s.group.getD i none with
      | some q =>
        rw [hgi] at hlook HCM HGP
        simp only [Option.getD_some, Option.isSome_some] at hlook HCM
        have HQ := Lib.hid (HGP.out q rfl)
        go_wp2_with (first
          | ((with_reducible refine wpList_store_new rfl (.tmp 5) (.tmp 28) rfl rfl ?_ ?_ HQ.out ?_); (exact rfl); (exact rfl); intro W2 hP hB2 hz2; have HT := Lib.hid (HNX.out W2 hB2); clear hen hB2 hz2 hlook c5))
        go_roundw
        case rel => exact ⟨_, _, by rw [HCM.out]; rfl, HT.out⟩
        case measure => rw [HT.out.rg.left_eq, hrg.left_eq]; exact HLT.out
      | none =>
        rw [hgi] at hlook HCM
        simp only [Option.getD_none, Option.isSome_none] at hlook HCM
        go_wp2_with (first
          | ((with_reducible refine wpList_store_new rfl (.tmp 5) (.tmp 28) rfl rfl ?_ ?_ zeros_length ?_); (exact rfl); (exact rfl); intro W2 hP hB2 hz2; have HT := Lib.hid (HNX.out W2 hB2); clear hen hB2 hz2 hlook c5))
        go_roundw
        case rel => exact ⟨_, _, by rw [HCM.out]; go_num, HT.out⟩
        case measure => rw [HT.out.rg.left_eq, hrg.left_eq]; exact HLT.out
end

section
open Go.RowKit Go.Maps Go.Sort Go.Shelf
open Jn (Chg)
theorem sortsA (m : Nat) : AnyZI.SortsIn Tryz.prog sortedA_ren Fence.wide m :=
  ⟨fun blk off cap ss W hH hblk hsz => callsIn_wide.2 (AnyM.slices_Sort_int sortA blk off cap ss W hH hblk hsz),
   fun p cap W => callsIn_wide.2 (AnyM.slices_Sort_int_none sortA p cap W)⟩
theorem keys_c (mb : Option Nat) (W : World) : Calls Tryz.prog 139 #[.map mb] W fun e w' => e = .returned (.func (.func 160) #[] #[.pointer (some ⟨W.heap.size, 0, none⟩)]) ∧ w' = W.alloc (.cells #[.map mb] 102) :=
  (callsIn_wide (n := 5)).1 (AnyZI.keys_in keysA Fence.wide 5 trivial rfl mb W)
theorem sorted_c {H : Type} (b nn : Nat) (D0 : DataW H) (R : Value → Option (DataW H × List MemPlace)) (w : World) (hown : w.ownsMap Tryz.prog 3 R b nn D0) (hmax : Maps.size D0 ≤ maxLen) (hbytes : Maps.size D0 * 8 ≤ 140737488355328) :
    Calls Tryz.prog 138 #[.func (.func 160) #[] #[.pointer (some ⟨w.heap.size, 0, none⟩)]] (w.alloc (.cells #[.map (some b)] 102)) fun e w' => ∃ (v : Value) (ss : List Int), e = .returned v ∧ ss.Perm (intKeys D0) ∧
      w'.ownsRow w.heap.size 3 1 v ss.length ((ss.mergeSort (fun x y => decide (x ≤ y))).map encZ) ∧ Below w.heap.size w w' := by
  refine (callsIn_wide (n := 5)).1 ?_
  have hbl := hown.lt
  have hseq : SeqGives Fence.wide 2 Tryz.prog 160 #[.pointer (some ⟨w.heap.size, 0, none⟩)] encZ (fun ss => ss.Perm (intKeys D0)) (Maps.size D0) (w.alloc (.cells #[.map (some b)] 102)) :=
    AnyZI.keys_gives (ρ := keysA_ren) { keysA with } Fence.wide _ trivial rfl (by omega) w.heap.size b nn D0 _ (by simp) (by simp) (by
      obtain ⟨es, clock, hb, Ft, hs, hD⟩ := hown
      exact ⟨es, clock, (Below.heap_alloc _ _ b hbl).trans hb, Ft, hs, hD⟩)
  have cS := AnyZI.sorted_in sortedA Fence.wide 5 trivial trivial trivial trivial rfl (by omega) (sortsA _) (enters_of Tryz.func159 (by kernel_rfl) rfl) 160 #[.pointer (some ⟨w.heap.size, 0, none⟩)] trivial (enters_of Tryz.func160 (by kernel_rfl) rfl) _ _ hmax hbytes _ hseq
  refine cS.mono ?_
  rintro e w' ⟨v, ss, rfl, hS, hrow, hnil, hb⟩
  exact ⟨v, ss, rfl, hS, ownsRow_base_a hrow (by simp), ((Below.refl _ w).alloc (Nat.le_refl _) _).trans (hb.mono (by simp))⟩
theorem keys_chgs {w : World} {b n : Nat} {D : DataW (List UInt8)} {c : Pgs} (hown : w.ownsMap Tryz.prog 3 pageR b n D) (hD : MapIs D c) {ss : List Int} (hs : ss.Perm (intKeys D)) : ss.mergeSort (fun x y => decide (x ≤ y)) = (chgs c).map (·.no) := by
  obtain ⟨es, hE, hpw, _⟩ := hown.entries keyLaw
  obtain ⟨es', hE', hko⟩ := hown.keysOf
  obtain rfl : es = es' := by rw [hE] at hE'; simpa using hE'
  subst hE
  have hp := chgs_pw c
  have hpw' : ((chgs c).map (·.no)).Pairwise (fun x y => x < y) := List.pairwise_map.2 hp
  have hk : ((chgs c).map (·.no)).Perm (intKeys (.map es)) := perm_intKeys hpw (fun p hp => by obtain ⟨v, hv⟩ := hko p hp; obtain ⟨x, _, hx, _⟩ := Maps.keyOf_i64 Tryz.underlying3 hv; exact ⟨x, hx⟩) (hpw'.imp fun h => Int.ne_of_lt h) (fun x => by
    rw [hD.has, List.mem_map]
    constructor
    · rintro ⟨y, hy, rfl⟩
      obtain ⟨k, h1, h2⟩ := chgs_mem.1 hy
      rw [h1, Int.toNat_natCast, h2]; simp
    · intro h
      have h0 : 0 ≤ x ∧ (c.getD x.toNat none).isSome = true := by simpa using h
      obtain ⟨k, rfl⟩ := Int.eq_ofNat_of_zero_le h0.1
      rw [Int.toNat_natCast] at h0
      obtain ⟨q, hq⟩ := Option.isSome_iff_exists.1 h0.2
      exact ⟨⟨(k : Int), q⟩, chgs_mem.2 ⟨k, rfl, hq⟩, rfl⟩)
  rw [show (fun x y : Int => decide (x ≤ y)) = leI from rfl, mergeSort_of_perm_i (hs.trans hk.symm)]
  exact List.mergeSort_of_pairwise (hpw'.imp fun h => by simp only [leI, decide_eq_true_eq]; omega)
theorem sorted_chgs {w : World} {b : Nat} {c : Pgs} (h : MapAt w b c) (hc : c.length ≤ 1000) :
    Calls Tryz.prog 138 #[.func (.func 160) #[] #[.pointer (some ⟨w.heap.size, 0, none⟩)]] (w.alloc (.cells #[.map (some b)] 102)) fun e w' => ∃ v : Value, e = .returned v ∧
      w'.ownsRow w.heap.size 3 1 v (cntO c) ((chgs c).map fun x => Value.int .i64 x.no) ∧ Below w.heap.size w w' := by
  obtain ⟨D, hown, hD⟩ := h
  have hsz : Maps.size D ≤ 1000 := by rw [hD.size]; exact Nat.le_trans List.countP_le_length hc
  refine (sorted_c b _ D pageR w hown (by unfold maxLen; omega) (by omega)).mono ?_
  rintro e w' ⟨v, ss, rfl, hS, hrow, hb⟩
  have hk := keys_chgs hown hD hS
  have hl : ss.length = cntO c := by
    have := congrArg List.length hk
    rw [List.length_mergeSort, List.length_map, chgs_length] at this
    exact this
  rw [hk, hl, List.map_map] at hrow
  exact ⟨v, rfl, hrow, hb⟩
end

section
open Go.RowKit Go.Maps
open Dk (zeros zeros_length)
open Jn (Chg)
theorem chg_type : ∃ i z, Tryz.prog.info? 177 = some i ∧ i.zero = some z ∧ i.size = 65 := by
  obtain ⟨i, hi, hz, hs, _⟩ := info_parts info_chg
  exact ⟨i, _, hi, hz, hs⟩
theorem run_buildChg1 (w : World) (c : Chg) (hp : c.page.length = 64) : (Instr.buildSlice 135 1 #[(0, chgV c)]).run Tryz.prog w = .ok (.slice (some ⟨w.heap.size, 0, none⟩) 1 1) (w.alloc (.cells (chgVals c).toArray 177)) := by
  obtain ⟨i, z, hi, hz, hs⟩ := chg_type
  refine run_buildSlice w 135 177 1 #[(0, chgV c)] _ i z Tryz.underlying135 hi hz (by rw [hs]; omega) (by rw [hs]; omega) ?_
  rw [hs]
  have h := Great.fill_whole (s := 65) (by omega) [chgV c] ((Array.range (1 * 65)).map (z.cells[· % z.cells.size]!)) (fun v hv => by
    rw [List.mem_singleton] at hv
    rw [hv]
    show (chgVals c).toArray.size = 65
    rw [List.size_toArray, chgVals_length hp]) (by simp)
  refine h.trans ?_
  simp [chgV, Value.cells]
theorem wpList_buildChg1 {ops : Array Oper} {rest : List Oper} {o : Oper} {a : Act} {w : World} {Q : Exit → Act → World → Prop} (c : Chg) (hp : c.page.length = 64) (x : Operand) (ho : o.op = .buildSlice 135 1 #[(0, x)]) (hw : Region.wanted o (yielded ops a.tmps) = true) (hx : a.eval x = chgV c)
    (h : wpList Tryz.prog ops Q rest (a.put o.dst (.slice (some ⟨w.heap.size, 0, none⟩) 1 1)) (w.alloc (.cells (chgVals c).toArray 177))) : wpList Tryz.prog ops Q (o :: rest) a w :=
  BigFrame.wpList_want hw fun _ hK => by
    have hr := run_buildChg1 w c hp
    unfold Oper.wp execOp
    simp only [ho, List.map_toArray, List.map_cons, List.map_nil, hx, Sem.run_bind, hr, Result.andThen_ok]
    exact hK _ _ h
theorem run_make_cap (w : World) (n : Nat) (hn : n ≤ 1000) : (Instr.makeSlice 135 (.int .i64 0) (.int .i64 (n : Int))).run Tryz.prog w = .ok (.slice (some ⟨w.heap.size, 0, none⟩) 0 n) (w.alloc (.cells (zeroTab n) 177)) := by
  obtain ⟨i, hi, hz, hs, hb⟩ := info_parts info_chg
  have := run_make (P := Tryz.prog) w 135 177 i (.agg chgZero) Tryz.underlying135 hi hz .i64 .i64 0 (n : Int) (by omega) (by omega) (by rw [hb]; omega) (by omega)
  rw [hs, Int.toNat_natCast] at this
  exact this
theorem owns_made (w : World) (n : Nat) (hn : n ≤ 1000) : (w.alloc (.cells (zeroTab n) 177)).ownsRow w.heap.size 177 65 (.slice (some ⟨w.heap.size, 0, none⟩) 0 n) 0 [] :=
  World.ownsRow_made w _ n (Nat.le_refl _) (by unfold maxLen; omega) (zeroTab_size n)
theorem flat_at (xs : List Chg) (h : ∀ x ∈ xs, x.page.length = 64) : ∀ (i : Nat) (x : Chg) (j : Nat) (v : Value), xs[i]? = some x → (chgVals x)[j]? = some v → (xs.flatMap chgVals)[i * 65 + j]? = some v := by
  induction xs with
  | nil => intro i x j v hx; simp at hx
  | cons y r ih =>
    intro i x j v hx hv
    have hy := chgVals_length (h y (by simp))
    rw [List.flatMap_cons]
    cases i with
    | zero =>
      simp at hx
      subst hx
      have hj : j < 65 := by rw [← hy]; exact (List.getElem?_eq_some_iff.1 hv).1
      rw [Nat.zero_mul, Nat.zero_add, List.getElem?_append_left (by rw [hy]; exact hj)]
      exact hv
    | succ i =>
      rw [List.getElem?_append_right (by rw [hy]; omega), hy, show (i + 1) * 65 + j - 65 = i * 65 + j by omega]
      exact ih (fun z hz => h z (by simp [hz])) i x j v (by simpa using hx) hv
theorem owns_chAt {w : World} {base : Nat} {A : Option Addr} {n c : Nat} {xs : List Chg} (h : w.ownsRow base 177 65 (.slice A n c) n (xs.flatMap chgVals)) (hx : ∀ x ∈ xs, x.page.length = 64) (hn : n = xs.length) {L : List Nat} (hL : ∀ k ∈ L, k < base) : ChAt w A L xs := fun h0 => by
  obtain ⟨h1, h2⟩ := h
  rcases h2 with ⟨e, e2⟩ | ⟨g, cap, cur, e, hb, hg, _, _, hsz, htk⟩
  · exfalso; omega
  · injection e with e _ _
    refine ⟨g, 0, e, (Array.getElem?_eq_some_iff.1 hg).1, fun q => by have := hL g q; omega, fun i x hxi j v hv => ?_⟩
    have hf := flat_at xs hx i x j v hxi hv
    rw [← htk] at hf
    have hlt : i * 65 + j < n * 65 := by
      have := (List.getElem?_eq_some_iff.1 hf).1
      rw [List.length_take] at this; omega
    rw [List.getElem?_take_of_lt hlt] at hf
    simp only [World.cell?, hg, Nat.zero_add]
    simp only [Option.isSome_none, Bool.false_eq_true, if_false]
    rw [← Array.getElem?_toList]
    exact hf
structure ChI (w : World) (cs : List Chg) (g : Nat) (l : Value) (k : Nat) (W : World) : Prop where
  row : W.ownsRow w.heap.size 177 65 l k ((cs.take k).flatMap chgVals)
  keys : ∀ i x, cs[i]? = some x → W.cell? ⟨g, i, none⟩ = some (.int .i64 x.no)
  bel : Below w.heap.size w W
  ne : l.ownBlock ≠ some g
  glt : g < W.heap.size
theorem ChI.next {w : World} {cs : List Chg} {g : Nat} {l l' : Value} {k : Nat} {W W' : World} {x : Chg} (h : ChI w cs g l k W) (hx : cs[k]? = some x) (hrow : W'.ownsRow w.heap.size 177 65 l' (k + 1) ((cs.take k).flatMap chgVals ++ chgVals x))
    (hg : (W.alloc (.cells (chgVals x).toArray 177)).grownBy W' l.ownBlock) (hloc : l'.ownBlock = l.ownBlock ∨ l'.ownBlock = some (W.alloc (.cells (chgVals x).toArray 177)).heap.size) : ChI w cs g l' (k + 1) W' where
  row := by
    obtain ⟨h1, h2⟩ := List.getElem?_eq_some_iff.1 hx
    rw [List.take_succ_eq_append_getElem h1, List.flatMap_append, h2]
    simpa using hrow
  keys := fun i y hy => by
    have e1 : W'.cell? ⟨g, i, none⟩ = (W.alloc (.cells (chgVals x).toArray 177)).cell? ⟨g, i, none⟩ := World.cell?_of_block (a := ⟨g, i, none⟩) (hg.block g (by have := h.glt; simp; omega) (fun e => h.ne e.symm))
    rw [e1]
    exact (((Below.refl W.heap.size W).alloc (Nat.le_refl _) (.cells (chgVals x).toArray 177)).cell (p := ⟨g, i, none⟩) h.glt).trans (h.keys i y hy)
  bel := (h.bel.alloc h.bel.size _).grown hg (by have := h.bel.size; simp; omega) (fun j hj => (h.row.lt j hj).1)
  ne := by
    rcases hloc with e | e
    · rw [e]; exact h.ne
    · rw [e]
      have := h.glt
      intro q
      injection q with q
      simp at q
      omega
  glt := Nat.lt_of_lt_of_le h.glt (Nat.le_trans (by simp) hg.size)
theorem cell_new (w : World) (vs : List Value) (t : TypeId) : ∀ j u, vs[j]? = some u → (w.alloc (.cells vs.toArray t)).cell? ((⟨w.heap.size, 0, none⟩ : Addr).add j) = some u := fun j u hj => by
  have := (rowAt_new w vs t).range j u hj
  rw [Nat.zero_add] at this
  unfold Addr.add
  by_cases e : j = 0
  · subst e; rw [if_pos rfl]; exact this
  · rw [if_neg e, Nat.zero_add]; exact this
theorem owns_slice {w : World} {base : Nat} {e : TypeId} {size : Nat} {v : Value} {k : Nat} {xs : List Value} (h : w.ownsRow base e size v k xs) : ∃ A c, v = .slice A k c := by
  rcases h.2 with ⟨e1, e2⟩ | ⟨g, cap, cur, e1, _⟩
  · exact ⟨none, 0, by rw [e1, e2]⟩
  · exact ⟨_, _, e1⟩
theorem schgs_any {w : World} {b : Blk} {s : Sto} (h : StoreAt w b s) : Calls Tryz.prog 101 #[.pointer (some ⟨b.s, 0, none⟩)] w fun e w' =>
    ∃ (A : Option Addr) (c : Nat), e = .returned (.slice A (chgs s.group).length c) ∧ ChAt w' A b.all (chgs s.group) ∧ Below w.heap.size w w' := by
  have HS := Lib.hid h
  have c5 := h.c5
  have hlen := h.group.len
  have HGL : Hid (s.group.length ≤ 1000) := Lib.hid (by rw [h.ok.glen]; have := h.disk.ok.small; omega)
  have HPG := Lib.hid (chgs_pages h.ok.gpg)
  have HN : Hid (cntO s.group = (chgs s.group).length) := Lib.hid (chgs_length _).symm
  have hn : cntO s.group ≤ 1000 := Nat.le_trans (cntO_le _) HGL.out
  have HLT := Lib.hid h.lt
  have HLK := Lib.hid (fun (W : World) (hW : Below w.heap.size w W) (i : Nat) (hi : i ≤ 1000) => (h.below hW).group.look1 i hi)
  have HC5 := Lib.hid (fun (W : World) (hW : Below w.heap.size w W) => (h.below hW).c5)
  have HMM := Lib.hid (fun x (hx : x ∈ chgs s.group) => chgs_mem.1 hx)
  clear h
  have hlen' : ∀ ty, (Builtin.len_ #[102] ty #[.map (some b.g)]).run Tryz.prog w = .ok (.int .i64 ((chgs s.group).length : Nat)) w := fun ty => by
    rw [← HN.out]; exact hlen ty
  rw [HN.out] at hn
  clear hlen
  have HSR := Lib.hid (fun (W : World) (hW : Below w.heap.size w W) => sorted_chgs (HS.out.below hW).group HGL.out)
  rw [HN.out] at HSR
  generalize chgs s.group = cs at *
  obtain ⟨n, hcn⟩ : ∃ n, cs.length = n := ⟨_, rfl⟩
  have HCN := Lib.hid hcn
  rw [hcn] at hlen' hn HSR HN ⊢
  clear hcn
  have hmk := run_make_cap w n hn
  have HOW := Lib.hid (owns_made w n hn)
  have HW1 : Hid (Below w.heap.size w (w.alloc (.cells (zeroTab n) 177))) := Lib.hid ((Below.refl _ _).alloc (Nat.le_refl _) _)
  have HSZ : Hid (w.heap.size < (w.alloc (.cells (zeroTab n) 177)).heap.size) := Lib.hid (by simp)
  have c5a : (w.alloc (.cells (zeroTab n) 177)).cell? ⟨b.s, 5, none⟩ = some (.map (some b.g)) := HC5.out _ HW1.out
  go_enter Tryz.func101, Tryz.ntmps101
  go_wp2_with fail
  clear hmk hlen' c5
  generalize w.alloc (.cells (zeroTab n) 177) = w1 at HOW HW1 HSZ c5a ⊢
  refine (keys_c _ _).mono ?_
  rintro e w2 ⟨rfl, rfl⟩
  go_wp2_with fail
  refine (HSR.out w1 HW1.out).mono ?_
  rintro e w3 ⟨v, rfl, hrow, hB3⟩
  have HB3 : Hid (Below w.heap.size w w3) := Lib.hid (HW1.out.trans (hB3.mono HW1.out.size))
  have HO3 : Hid (w3.ownsRow w.heap.size 177 65 (.slice (some ⟨w.heap.size, 0, none⟩) 0 n) 0 []) := Lib.hid (HOW.out.kept (row := none) ⟨hB3.os, hB3.tape, hB3.output, hB3.size, fun k hk _ => hB3.block k hk⟩ (Or.inr (by simp [Value.ownBlock])))
  obtain ⟨hl, hh⟩ := hrow
  rcases hh with ⟨rfl, hn0⟩ | ⟨g, cap, cur, rfl, hg1, hg2, hg3, hg4, hg5, hg6⟩
  · have HNIL : Hid (cs = []) := Lib.hid (List.eq_nil_of_length_eq_zero (by rw [HCN.out]; exact hn0))
    subst hn0
    clear hl HSR HOW HW1 HSZ c5a hB3
    go_wp2_with fail
    go_loopw [3, 19] (fun l i wr => l = .slice (some ⟨w.heap.size, 0, none⟩) 0 0 ∧ i = .int .i64 0 ∧ wr = w3) (fun _ _ _ => 0)
    case atStart => exact ⟨rfl, rfl, rfl⟩
    case round =>
      obtain ⟨rfl, rfl, rfl⟩ := hrel
      go_wp2_with fail
      go_ret
      refine ⟨_, _, rfl, ?_, HB3.out⟩
      rw [HNIL.out]
      intro h0
      simp at h0
  · have HK : Hid (∀ i x, cs[i]? = some x → w3.cell? ⟨g, i, none⟩ = some (.int .i64 x.no)) := Lib.hid (fun i x hx => by
      have h1 : (cs.map fun x => Value.int .i64 x.no)[i]? = some (.int .i64 x.no) := by rw [List.getElem?_map, hx]; rfl
      rw [← hg6] at h1
      have hlt : i < n * 1 := by
        have := (List.getElem?_eq_some_iff.1 h1).1
        rw [List.length_take] at this; omega
      rw [List.getElem?_take_of_lt hlt] at h1
      simp only [World.cell?, hg2]
      simp only [Option.isSome_none, Bool.false_eq_true, if_false]
      rw [← Array.getElem?_toList]
      exact h1)
    have HGG : Hid (g < w3.heap.size) := Lib.hid (Array.getElem?_eq_some_iff.1 hg2).1
    have HST : Hid (ChI w cs g (.slice (some ⟨w.heap.size, 0, none⟩) 0 n) 0 w3) := Lib.hid ⟨HO3.out, HK.out, HB3.out, (by have := HSZ.out; simp [Value.ownBlock]; omega), HGG.out⟩
    have HCAP : Hid (cap ≤ maxLen) := Lib.hid hg4
    unfold maxLen at hg4
    clear hl hg1 hg2 hg5 hg6 HK HGG HB3 HO3 HSR HOW HW1 HSZ c5a hB3
    go_wp2_with fail
    go_loopw [3, 19] (fun l i wr => ∃ (A : Option Addr) (c k : Nat), k ≤ n ∧ l = .slice A k c ∧ i = .int .i64 k ∧ ChI w cs g l k wr) (fun _ i _ => n - (intOf i).toNat)
    case atStart => exact ⟨_, _, 0, Nat.zero_le _, rfl, rfl, HST.out⟩
    case round =>
      obtain ⟨A, c, k, hk, rfl, rfl, hci⟩ := hrel
      have HCI := Lib.hid hci
      clear hci HST
      by_cases hlt : k < n
      · obtain ⟨x, hx⟩ : ∃ x, cs[k]? = some x := ⟨_, List.getElem?_eq_getElem (by rw [HCN.out]; exact hlt)⟩
        have HX := Lib.hid hx
        have hcell := HCI.out.keys k x hx
        obtain ⟨i, hi1, hi2⟩ := HMM.out x (List.mem_of_getElem? hx)
        have HXP := Lib.hid (HPG.out x (List.mem_of_getElem? hx))
        have hi3 : i ≤ 1000 := by have := pgs_lt hi2; have := HGL.out; omega
        have hlook := HLK.out wr HCI.out.bel i hi3
        rw [hi2] at hlook
        simp only [Option.getD_some] at hlook
        rw [hi1] at hcell
        have HXE : Hid (x = ⟨(i : Int), x.page⟩) := Lib.hid (by cases x; simp at hi1 ⊢; exact hi1)
        have c5 := HC5.out wr HCI.out.bel
        obtain ⟨i0, hi0, hz0, hs0, hb0⟩ := info_parts info_chg
        have HI0 := Lib.hid hi0
        have HZ0 := Lib.hid hz0
        have HS0 := Lib.hid hs0
        have HB0 := Lib.hid hb0
        clear hx hi1 hi2 hi3 hi0 hz0 hs0 hb0
        have hlt' : (k : Int) < (n : Int) := by omega
        go_wp2_with (first
          | (with_reducible refine wpList_buildChg (i : Int) x.page HXP.out rfl (.tmp 24) (.tmp 30) rfl (some 31) rfl rfl rfl ?_)
          | (with_reducible refine wpList_buildChg1 ⟨(i : Int), x.page⟩ HXP.out (.tmp 31) rfl rfl rfl ?_)
          | (at_builtin; go_must (refine wpList_append_own_at _ rfl (.tmp 23) (.tmp 32) 135 rfl w.heap.size 177 i0 _ 65 72 Tryz.underlying135 HI0.out HZ0.out HS0.out HB0.out chgZero_size (by omega) _ k _ rfl (HCI.out.row.alloc _) ⟨wr.heap.size, 0, none⟩ 1 1 (chgVals ⟨(i : Int), x.page⟩) rfl (chgVals_length HXP.out) (cell_new _ _ _) (chgVals_one _) (by unfold maxLen; omega) (by omega) (by have := HCI.out.bel.size; simp; omega) ?_); intro v' w5 hown' hgrow hnil hloc; obtain ⟨A', c', rfl⟩ := owns_slice hown'; have HNX := Lib.hid (HCI.out.next HX.out (by rw [HXE.out]; exact hown') (by rw [HXE.out]; exact hgrow) (by rw [HXE.out]; exact hloc)); clear hown' hgrow hnil hloc))
        go_roundw
        case rel => exact ⟨_, _, k + 1, by omega, rfl, by go_num, HNX.out⟩
        case measure => simp [intOf]; omega
      · obtain rfl : k = n := by omega
        have HCH : Hid (ChAt wr A b.all cs) := Lib.hid (by
          have hr := HCI.out.row
          rw [List.take_of_length_le (by rw [HCN.out]; exact Nat.le_refl _)] at hr
          exact owns_chAt hr HPG.out HCN.out.symm HLT.out)
        have HBE := Lib.hid HCI.out.bel
        go_wp2_with fail
        go_ret
        exact ⟨_, _, rfl, HCH.out, HBE.out⟩
end

section
open Go.RowKit Go.Maps
open Dk (zeros zeros_length)
open Jn (Chg)
def smid (s : Sto) : Sto := if cntO s.group = 0 then s else scommit s
def Synced (b : Blk) (s : Sto) (w : World) (e : Ending) (w' : World) : Prop := ∃ E, e = .returned (.int .i64 E) ∧ E = ssyncE s ∧ StoreAt w' b (smid s) ∧ Only [b.j, b.d, b.l, b.m] w w'
theorem scommit_call {w : World} {b : Blk} {s : Sto} (h : StoreAt w b s) (ho : s.over = false) (hq0 : 0 ≤ s.q) (hq1 : s.q < 4294967290) (A : Option Addr) (c : Nat) (hc : ChAt w A b.all (chgs s.group)) :
    Calls Tryz.prog 100 #[.pointer (some ⟨b.j, 0, none⟩), .slice A (chgs s.group).length c] w (Synced b s w) := by
  obtain ⟨q, hj, hq⟩ := h.ja
  have hqq := hq ho
  subst hqq
  rw [ho] at hj
  have ne := Blk.ne h.nd
  have hjd : b.j ∉ [b.d, b.l, b.m] := by simp; omega
  have hnn : ¬ s.over = true := by rw [ho]; simp
  have m1 : b.s ∈ b.all ∧ b.t ∈ b.all ∧ b.g ∈ b.all := by simp [Blk.all]
  have m2 : b.s ∉ [b.d, b.l, b.m, b.j] ∧ b.t ∉ [b.d, b.l, b.m, b.j] ∧ b.g ∉ [b.d, b.l, b.m, b.j] := by simp; omega
  have hO := outer_any hj h.disk hjd h.ok.a9 h.ok.z9 h.ok.room h.ok.r32 h.ok.rz h.ok.reg A c (hc.mono (by simp [Blk.all])) (chgs_pages h.ok.gpg) (by rw [chgs_length]; have := h.ok.gcnt; have := h.ok.r32; omega) hq0 hq1
  unfold Comm at hO
  rw [show Jn.runs s.dk (Jn.steps s.a s.q (chgs s.group)) = srun s from rfl] at hO
  have hcok := scommit_ok h.ok
  have hse : ¬ cntO s.group = 0 → ssyncE s = (srun s).2 := fun hz => by unfold ssyncE; rw [if_neg hnn, if_neg hz]
  have hsm : smid s = if cntO s.group = 0 then s else { s with dk := (srun s).1, over := (srun s).2 != 0, q := s.q + 2 } := rfl
  unfold scommit at hcok
  unfold Synced
  rw [hsm]
  generalize srun s = R at *
  refine hO.mono ?_
  rintro e w' (⟨h1, _⟩ | ⟨h1, _⟩ | ⟨h1, rfl, h3⟩ | ⟨hm, rfl, hd, ⟨q', hj', hq'⟩, ho'⟩)
  · rw [chgs_takes h.ok.gpg] at h1; cases h1
  · rw [chgs_length] at h1
    have := h.ok.gcnt
    omega
  · have hz : cntO s.group = 0 := by rw [← chgs_length, h1]; rfl
    refine ⟨0, rfl, ?_, ?_, Only.below h3⟩
    · unfold ssyncE; rw [if_neg hnn, if_pos hz]
    · rw [if_pos hz]; exact h.below h3
  · have hz : ¬ cntO s.group = 0 := by rw [← chgs_length]; have := hm.pos; omega
    refine ⟨_, rfl, (hse hz).symm, ?_, ho'.mono (by simp)⟩
    rw [if_neg hz]
    have e1 : ∀ k, k ∈ b.all → k ∉ [b.d, b.l, b.m, b.j] → w'.heap[k]? = w.heap[k]? := fun k hk hn => ho'.block k (h.lt k hk) hn
    have f1 := h.row.block (e1 b.s m1.1 m2.1)
    have f2 := h.step.block (e1 b.t m1.2.1 m2.2.1)
    have f3 := h.group.block (e1 b.g m1.2.2 m2.2.2)
    have f4 : (R.2 != 0) = false → q' = s.q + 2 := fun hh => hq' (by simpa using hh)
    clear hO hse hsm ho' e1 hc hq
    exact ⟨f1, ⟨q', hj', f4⟩, hd, f2, f3, h.nd, hcok⟩
theorem ssync_bad {s : Sto} (ho : s.over = false) (he : ¬ ssyncE s = 0) : ssync s = smid s := by
  have hnn : ¬ s.over = true := by rw [ho]; simp
  unfold ssyncE at he
  rw [if_neg hnn] at he
  unfold ssync smid
  rw [if_neg hnn]
  by_cases hz : cntO s.group = 0
  · rw [if_pos hz] at he; exact absurd rfl he
  · rw [if_neg hz] at he
    rw [if_neg hz, if_neg hz, if_neg he]
theorem ssync_good {s : Sto} (h : s.Ok) (ho : s.over = false) (he : ssyncE s = 0) : ssync s = { smid s with group := noPgs (smid s).dk.last.length } := by
  have hnn : ¬ s.over = true := by rw [ho]; simp
  unfold ssyncE at he
  rw [if_neg hnn] at he
  unfold ssync smid
  rw [if_neg hnn]
  by_cases hz : cntO s.group = 0
  · rw [if_pos hz, if_pos hz]
    have := cntO_zero hz
    rw [h.glen] at this
    rw [← this]
  · rw [if_neg hz] at he
    rw [if_neg hz, if_neg hz, if_pos he]
    have : (scommit s).dk.last.length = s.dk.last.length := srun_len s
    rw [this]
theorem ssync_any {w : World} {b : Blk} {s : Sto} (h : StoreAt w b s) (hq0 : 0 ≤ s.q) (hq1 : s.q < 4294967290) : Calls Tryz.prog 58 #[.pointer (some ⟨b.s, 0, none⟩)] w fun e w' =>
    e = .returned (.int .i64 (ssyncE s)) ∧ StoreAt w' b (ssync s) ∧ Only [b.j, b.d, b.l, b.m, b.g] w w' := by
  have HS := Lib.hid h
  have HV := Lib.hid (sover_any h)
  cases ho : s.over with
  | true =>
    have HE : Hid (ssyncE s = 5) := Lib.hid (by unfold ssyncE; rw [if_pos ho])
    have HF : Hid (ssync s = s) := Lib.hid (by unfold ssync; rw [if_pos ho])
    rw [HE.out, HF.out]
    rw [ho] at HV
    clear h ho HE HF
    go_enter Tryz.func58, Tryz.ntmps58
    go_wp2_with (go_at_call 71; refine HV.out.mono ?_; rintro e w' ⟨rfl, rfl⟩)
    go_ret
    exact ⟨rfl, HS.out, Only.refl _ _⟩
  | false =>
    rw [ho] at HV
    have HCM := Lib.hid (fun (W : World) (A : Option Addr) (c : Nat) (hW : StoreAt W b s) (hc : ChAt W A b.all (chgs s.group)) => scommit_call hW ho hq0 hq1 A c hc)
    have HBAD := Lib.hid (fun (he : ¬ ssyncE s = 0) => ssync_bad ho he)
    have HGOOD := Lib.hid (fun (he : ssyncE s = 0) => ssync_good h.ok ho he)
    clear h ho hq0 hq1
    go_enter Tryz.func58, Tryz.ntmps58
    go_wp2_with (go_at_call 71; refine HV.out.mono ?_; rintro e w' ⟨rfl, rfl⟩)
    refine wp_region_noPanic ?_
    refine wp_region_held_drew (S := fun W => W.cell? ⟨b.s, 0, none⟩ = some (.pointer (some ⟨b.j, 0, none⟩))) (by kernel_rfl) (HS.out.drew.c0) (fun hHeld => ?_)
    have HB1 : Hid (Below w.heap.size w w.drew) := Lib.hid (Below.refl _ _).drew
    have HS1 := Lib.hid HS.out.drew
    generalize w.drew = w1 at HB1 HS1 hHeld ⊢
    refine take_at (i := 0) (d := some 6) (v := .pointer (some ⟨b.s, 0, none⟩)) rfl rfl (by kernel_rfl) (by kernel_rfl) (by kernel_rfl) (fun _ _ _ h => h) (Or.inl ⟨by kernel_rfl, ?_⟩) hHeld ?_
    · intro w hSw; have c0 : w.cell? ⟨b.s, 0, none⟩ = some (.pointer (some ⟨b.j, 0, none⟩)) := hSw; go_simp
    (try simp only [Act.put, puA, puB, puC])
    refine take_at (i := 1) (d := some 7) (v := .pointer (some ⟨b.s, 0, none⟩)) rfl rfl (by kernel_rfl) (by kernel_rfl) (by kernel_rfl) (fun _ _ _ h => h) (Or.inl ⟨by kernel_rfl, ?_⟩) hHeld ?_
    · intro w hSw; have c0 : w.cell? ⟨b.s, 0, none⟩ = some (.pointer (some ⟨b.j, 0, none⟩)) := hSw; go_simp
    (try simp only [Act.put, puA, puB, puC])
    refine take_at (i := 2) (d := some 8) (v := .pointer (some ⟨b.s, 0, none⟩)) rfl rfl (by kernel_rfl) (by kernel_rfl) (by kernel_rfl) (fun _ _ _ h => h) (Or.inl ⟨by kernel_rfl, ?_⟩) hHeld ?_
    · intro w hSw; have c0 : w.cell? ⟨b.s, 0, none⟩ = some (.pointer (some ⟨b.j, 0, none⟩)) := hSw; go_simp
    (try simp only [Act.put, puA, puB, puC])
    refine take_at (i := 3) (d := some 9) (v := .pointer (some ⟨b.j, 0, none⟩)) rfl rfl (by kernel_rfl) (by kernel_rfl) (by kernel_rfl) (fun _ _ _ h => h) (Or.inl ⟨by kernel_rfl, ?_⟩) hHeld ?_
    · intro w hSw; have c0 : w.cell? ⟨b.s, 0, none⟩ = some (.pointer (some ⟨b.j, 0, none⟩)) := hSw; go_simp
    (try simp only [Act.put, puA, puB, puC])
    refine take_at (i := 4) (d := some 10) (v := .pointer (some ⟨b.s, 0, none⟩)) rfl rfl (by kernel_rfl) (by kernel_rfl) (by kernel_rfl) (fun _ _ _ h => h) (Or.inl ⟨by kernel_rfl, ?_⟩) hHeld ?_
    · intro w hSw; have c0 : w.cell? ⟨b.s, 0, none⟩ = some (.pointer (some ⟨b.j, 0, none⟩)) := hSw; go_simp
    (try simp only [Act.put, puA, puB, puC])
    refine wpAnyH_ready (rs := [5]) (by kernel_rfl) (by simp) ?_
    refine AllReadyH.cons rfl (fun K hK => ?_) AllReadyH.nil
    go_simp
    (go_at_call 101; refine (schgs_any HS1.out).mono ?_; rintro e w2 ⟨A, c, rfl, hC2, hB2⟩; have HS2 := Lib.hid (HS1.out.below hB2); have HC2 := Lib.hid hC2; have HB2 := Lib.hid hB2; clear hC2 hB2)
    (try go_wp2_with fail)
    refine hK.out _ _ HS2.out.c0 (fun hHeld => ?_)
    clear hK K
    (try simp only [Act.put, puA, puB, puC])
    refine wpAnyH_ready (rs := [6]) (by kernel_rfl) (by simp) ?_
    refine AllReadyH.cons rfl (fun K hK => ?_) AllReadyH.nil
    go_simp
    (go_at_call 100; refine (HCM.out w2 A c HS2.out HC2.out).mono ?_; rintro e w3 ⟨E, rfl, hE, hS3, hO3⟩; have HS3 := Lib.hid hS3; have HO3 := Lib.hid hO3; have HE := Lib.hid hE; clear hS3 hO3 hE)
    (try go_wp2_with fail)
    refine hK.out _ _ HS3.out.c0 (fun hHeld => ?_)
    clear hK K
    (try simp only [Act.put, puA, puB, puC])
    refine take_at (i := 7) (d := some 3) (v := .int .i64 E) rfl rfl (by kernel_rfl) (by kernel_rfl) (by kernel_rfl) (fun _ _ _ h => h) (Or.inl ⟨by kernel_rfl, ?_⟩) hHeld ?_
    · intro w hSw; have c0 : w.cell? ⟨b.s, 0, none⟩ = some (.pointer (some ⟨b.j, 0, none⟩)) := hSw; go_simp
    (try simp only [Act.put, puA, puB, puC])
    refine wpAnyH_done (by kernel_rfl) ?_ _
    refine NoPanic.normal ?_
    have HOO : Hid (Only [b.j, b.d, b.l, b.m, b.g] w w3) := Lib.hid ((Only.below (HB1.out.trans (HB2.out.mono HB1.out.size))).trans (HO3.out.mono (by simp)))
    clear HS HV HCM HB1 HS1 HB2 HS2 HC2 HO3
    by_cases hE0 : E = 0
    · subst hE0
      have HG := Lib.hid (HGOOD.out HE.out.symm)
      have c5 := HS3.out.c5
      obtain ⟨w4, hcl0, hmp, htn⟩ := HS3.out.group.clear (smid s).dk.last.length 0
      have hcl : ∀ ty, (Builtin.clear_ #[102] ty #[.map (some b.g)]).run Tryz.prog w3 = .ok (.tuple #[]) w4 := fun ty => hcl0
      have HM := Lib.hid hmp
      have HT := Lib.hid htn
      clear hcl0 hmp htn HBAD HGOOD
      go_wp2_with fail
      go_ret
      have ho : Only [b.g] w3 w4 := Only.grown HT.out.grown (by simp)
      refine ⟨by rw [← HE.out]; rfl, ?_, HOO.out.trans (ho.mono (by simp))⟩
      rw [HG.out]
      exact HS3.out.setGroup ho HM.out (sclear_ok HS3.out.ok rfl)
    · have HG := Lib.hid (HBAD.out (by rw [← HE.out]; exact hE0))
      have hne2 : (E == 0) = false := by simpa using hE0
      have hne3 : (E != 0) = true := by simpa using hE0
      clear hE0 HBAD HGOOD
      go_wp2_with fail
      go_ret
      exact ⟨by rw [← HE.out]; rfl, by rw [HG.out]; exact HS3.out, HOO.out⟩
end
end Go.Proofs.YtncmihikpcdgoaaGreat
