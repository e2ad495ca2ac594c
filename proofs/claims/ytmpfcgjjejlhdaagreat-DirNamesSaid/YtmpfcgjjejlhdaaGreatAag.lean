/- Texts of the proof. -/
import Derived.Test.YtmpfcgjjejlhdaaGreatAaf
import Derived.Test.YtmpfcgjjejlhdaaGreatAab
set_option maxRecDepth 100000
set_option maxHeartbeats 16000000
namespace Go.Proofs.YtmpfcgjjejlhdaaGreat
section
open Go.RowKit Go.Maps
open Dk (zeros zeros_length)
open Jn (Chg)
theorem sreach_zero {s : Sto} {i : Int} (h : sreachE s i = 0) : s.over = false ∧ otherB s.dk.last.length s.a s.z i = true := by
  unfold sreachE at h
  split at h
  · cases h
  · split at h
    · rename_i h1 h2; exact ⟨by simpa using h1, h2⟩
    · cases h
structure RdAt (w : World) (b : Blk) (s : Sto) (W : World) : Prop where
  page : PageAt W w.heap.size zeros
  st : StoreAt W b s
  bel : Below w.heap.size w W
  lt : w.heap.size < W.heap.size
theorem rdAt_start {w : World} {b : Blk} {s : Sto} (h : StoreAt w b s) {W : World} (hb : Below (w.alloc (.cells zeroCells 97)).heap.size (w.alloc (.cells zeroCells 97)) W) : RdAt w b s W := by
  have hlt : w.heap.size < (w.alloc (.cells zeroCells 97)).heap.size := by simp
  exact ⟨(pageAt_zeros w 97).below hb hlt, (h.alloc _).below hb, ((Below.refl _ _).alloc (Nat.le_refl _) _).trans (hb.mono (by simp)), Nat.lt_of_lt_of_le hlt hb.size⟩
theorem RdAt.next {w : World} {b : Blk} {s : Sto} {W W' : World} (h : RdAt w b s W) (hb : Below W.heap.size W W') : RdAt w b s W' :=
  ⟨h.page.below hb h.lt, h.st.below hb, h.bel.trans (hb.mono h.bel.size), Nat.lt_of_lt_of_le h.lt hb.size⟩
theorem sread_any {w : World} {b : Blk} {s : Sto} (h : StoreAt w b s) (i : Int) : Calls Tryz.prog 75 #[.pointer (some ⟨b.s, 0, none⟩), .int .i64 i] w fun e w' => e = .returned (.tuple #[pageV (sreadP s i), .int .i64 (sreadE s i)]) ∧ Below w.heap.size w w' := by
  have HR := Lib.hid (sreach_any (h.alloc (.cells zeroCells 97)) i)
  have HS : Hid (∀ W, Below (w.alloc (.cells zeroCells 97)).heap.size (w.alloc (.cells zeroCells 97)) W → RdAt w b s W) := Lib.hid (fun W hb => rdAt_start h hb)
  rw [zeroCells_def] at HR
  by_cases c : sreachE s i = 0
  · obtain ⟨c1, c2⟩ := sreach_zero c
    have c3 := of_decide_eq_true c2
    obtain ⟨k, rfl⟩ := Int.eq_ofNat_of_zero_le c3.1
    have hk : k < s.dk.last.length := by omega
    have hk2 : k ≤ 1000 := by have := h.disk.ok.small; omega
    rw [c] at HR
    cases ht : s.step.getD k none with
    | some p =>
      have HP : Hid (sreadP s (k : Int) = p) := Lib.hid (by unfold sreadP sheld; rw [if_pos c, Int.toNat_natCast, ht]; rfl)
      have HE : Hid (sreadE s (k : Int) = 0) := Lib.hid (by unfold sreadE sheld; rw [if_pos c, Int.toNat_natCast, ht]; rfl)
      have HN := Lib.hid (h.ok.spg k p ht).1
      have HLK := Lib.hid (fun (W : World) (hW : RdAt w b s W) => hW.st.step.look k hk2)
      rw [ht] at HLK
      simp only [Option.getD_some, Option.isSome_some] at HLK
      rw [HP.out, HE.out]
      clear HP HE c c1 c2 c3 ht h hk hk2
      go_enter Tryz.func75, Tryz.ntmps75
      go_wp2_with fail
      refine HR.out.mono ?_
      rintro e w1 ⟨rfl, hB1⟩
      rw [← zeroCells_def] at hB1
      have HS1 := Lib.hid (HS.out _ hB1)
      clear HR HS hB1
      have c4 := HS1.out.st.c4
      have hlook := HLK.out w1 HS1.out
      go_wp2_with (first
        | ((with_reducible refine wpList_store_new rfl (.tmp 7) (.tmp 25) rfl rfl ?_ ?_ HN.out ?_); (exact rfl); (exact rfl); intro W2 hP hB2 hz2; clear hlook; have HS2 := Lib.hid (HS1.out.next hB2))
        | (with_reducible refine wpList_load_page hP rfl (.tmp 7) rfl rfl ?_)
        | (with_reducible refine wpList_store_page HS2.out.page HN.out rfl (.tmp 4) (.tmp 28) rfl rfl rfl ?_))
      exact bodyPost_ret (results_page_int _ 4 5 rfl _ (HS2.out.page.put _ HN.out) rfl) rfl ⟨rfl, below_setCells _ (Nat.le_refl _) _ _ _ HS2.out.bel⟩
    | none =>
      have HLT := Lib.hid (fun (W : World) (hW : RdAt w b s W) => hW.st.step.look k hk2)
      rw [ht] at HLT
      simp only [Option.getD_none, Option.isSome_none] at HLT
      cases hg : s.group.getD k none with
      | some p =>
        have HP : Hid (sreadP s (k : Int) = p) := Lib.hid (by unfold sreadP sheld; rw [if_pos c, Int.toNat_natCast, ht, hg]; rfl)
        have HE : Hid (sreadE s (k : Int) = 0) := Lib.hid (by unfold sreadE sheld; rw [if_pos c, Int.toNat_natCast, ht, hg]; rfl)
        have HN := Lib.hid (h.ok.gpg k p hg).1
        have HLK := Lib.hid (fun (W : World) (hW : RdAt w b s W) => hW.st.group.look k hk2)
        rw [hg] at HLK
        simp only [Option.getD_some, Option.isSome_some] at HLK
        rw [HP.out, HE.out]
        clear HP HE c c1 c2 c3 ht hg h hk hk2
        go_enter Tryz.func75, Tryz.ntmps75
        go_wp2_with fail
        refine HR.out.mono ?_
        rintro e w1 ⟨rfl, hB1⟩
        rw [← zeroCells_def] at hB1
        have HS1 := Lib.hid (HS.out _ hB1)
        clear HR HS hB1
        have c4 := HS1.out.st.c4
        have hlook := HLT.out w1 HS1.out
        go_wp2_with (first
          | ((with_reducible refine wpList_store_new rfl (.tmp 7) (.tmp 25) rfl rfl ?_ ?_ zeros_length ?_); (exact rfl); (exact rfl); intro W2 hP hB2 hz2; clear hlook; have HS2 := Lib.hid (HS1.out.next hB2); clear hP hB2 hz2; have c5 := HS2.out.st.c5; have hlook2 := HLK.out W2 HS2.out)
          | ((with_reducible refine wpList_store_new rfl (.tmp 9) (.tmp 36) rfl rfl ?_ ?_ HN.out ?_); (exact rfl); (exact rfl); intro W3 hP hB3 hz3; clear hlook2; have HS3 := Lib.hid (HS2.out.next hB3))
          | (with_reducible refine wpList_load_page hP rfl (.tmp 9) rfl rfl ?_)
          | (with_reducible refine wpList_store_page HS3.out.page HN.out rfl (.tmp 4) (.tmp 39) rfl rfl rfl ?_))
        exact bodyPost_ret (results_page_int _ 4 5 rfl _ (HS3.out.page.put _ HN.out) rfl) rfl ⟨rfl, below_setCells _ (Nat.le_refl _) _ _ _ HS3.out.bel⟩
      | none =>
        have HP : Hid (sreadP s (k : Int) = Dk.readP s.dk (k : Int)) := Lib.hid (by unfold sreadP sheld; rw [if_pos c, Int.toNat_natCast, ht, hg]; rfl)
        have HE : Hid (sreadE s (k : Int) = Dk.reachE s.dk (k : Int)) := Lib.hid (by unfold sreadE sheld; rw [if_pos c, Int.toNat_natCast, ht, hg]; rfl)
        have HN := Lib.hid (Dk.readP_len h.disk.ok (k : Int))
        have HLK := Lib.hid (fun (W : World) (hW : RdAt w b s W) => hW.st.group.look k hk2)
        rw [hg] at HLK
        simp only [Option.getD_none, Option.isSome_none] at HLK
        have HRD := Lib.hid (fun (W : World) (hW : RdAt w b s W) => read_any hW.st.disk (k : Int))
        rw [HP.out, HE.out]
        clear HP HE c c1 c2 c3 ht hg h hk hk2
        generalize Dk.readP s.dk (k : Int) = p at HN HRD ⊢
        generalize Dk.reachE s.dk (k : Int) = E at HRD ⊢
        go_enter Tryz.func75, Tryz.ntmps75
        go_wp2_with fail
        refine HR.out.mono ?_
        rintro e w1 ⟨rfl, hB1⟩
        rw [← zeroCells_def] at hB1
        have HS1 := Lib.hid (HS.out _ hB1)
        clear HR HS hB1
        have c4 := HS1.out.st.c4
        have hlook := HLT.out w1 HS1.out
        go_wp2_with (first
          | ((with_reducible refine wpList_store_new rfl (.tmp 7) (.tmp 25) rfl rfl ?_ ?_ zeros_length ?_); (exact rfl); (exact rfl); intro W2 hP hB2 hz2; clear hlook; have HS2 := Lib.hid (HS1.out.next hB2); clear hP hB2 hz2; have c5 := HS2.out.st.c5; have hlook2 := HLK.out W2 HS2.out)
          | ((with_reducible refine wpList_store_new rfl (.tmp 9) (.tmp 36) rfl rfl ?_ ?_ zeros_length ?_); (exact rfl); (exact rfl); intro W3 hP hB3 hz3; clear hlook2; have HS3 := Lib.hid (HS2.out.next hB3); clear hP hB3 hz3; have c1 := HS3.out.st.c1))
        refine (HRD.out _ HS3.out).mono ?_
        rintro e W4 ⟨rfl, hB4⟩
        have HS4 := Lib.hid (HS3.out.next hB4)
        clear hB4
        go_wp2_with (with_reducible refine wpList_store_page HS4.out.page HN.out rfl (.tmp 4) (.tmp 46) rfl rfl rfl ?_)
        exact bodyPost_ret (results_page_int _ 4 5 rfl _ (HS4.out.page.put _ HN.out) rfl) rfl ⟨rfl, below_setCells _ (Nat.le_refl _) _ _ _ HS4.out.bel⟩
  · have HP : Hid (sreadP s i = zeros) := Lib.hid (by unfold sreadP; rw [if_neg c])
    have HE : Hid (sreadE s i = sreachE s i) := Lib.hid (by unfold sreadE; rw [if_neg c])
    rw [HP.out, HE.out]
    have hne : (sreachE s i == 0) = false := by simpa using c
    have hne2 : (sreachE s i != 0) = true := by simpa using c
    generalize sreachE s i = E at HR hne hne2 ⊢
    clear c h HP HE
    go_enter Tryz.func75, Tryz.ntmps75
    go_wp2_with fail
    refine HR.out.mono ?_
    rintro e w1 ⟨rfl, hB1⟩
    rw [← zeroCells_def] at hB1
    have HS1 := Lib.hid (HS.out _ hB1)
    clear HR HS hB1
    go_wp2_with ((with_reducible refine wpList_store_page HS1.out.page zeros_length rfl (.tmp 4) (.tmp 16) rfl rfl ?_ ?_); (exact rfl))
    exact bodyPost_ret (results_page_int _ 4 5 rfl _ (HS1.out.page.put _ zeros_length) rfl) rfl ⟨rfl, below_setCells _ (Nat.le_refl _) _ _ _ HS1.out.bel⟩
structure PtAt (w : World) (b : Blk) (s : Sto) (p : List UInt8) (W : World) : Prop where
  page : PageAt W w.heap.size p
  st : StoreAt W b s
  bel : Below w.heap.size w W
  lt : w.heap.size < W.heap.size
theorem PtAt.next {w : World} {b : Blk} {s : Sto} {p : List UInt8} {W W' : World} (h : PtAt w b s p W) (hb : Below W.heap.size W W') : PtAt w b s p W' :=
  ⟨h.page.below hb h.lt, h.st.below hb, h.bel.trans (hb.mono h.bel.size), Nat.lt_of_lt_of_le h.lt hb.size⟩
theorem ptAt_start {w : World} {b : Blk} {s : Sto} (h : StoreAt w b s) {p : List UInt8} (hp : p.length = 64) : PtAt w b s p (w.alloc (.cells (byteVals p).toArray 97)) :=
  ⟨pageAt_new w p 97 hp, h.alloc _, (Below.refl _ _).alloc (Nat.le_refl _) _, by simp⟩
theorem sput_any {w : World} {b : Blk} {s : Sto} (h : StoreAt w b s) (i : Int) (p : List UInt8) (hp : p.length = 64) : Calls Tryz.prog 76 #[.pointer (some ⟨b.s, 0, none⟩), .int .i64 i, pageV p] w fun e w' =>
    e = .returned (.int .i64 (sputE s i)) ∧ StoreAt w' b (sput s i p) ∧ Only [b.t] w w' := by
  have HP := Lib.hid hp
  have HS := Lib.hid (ptAt_start h hp)
  have HR := Lib.hid (sreach_any HS.out.st i)
  have HT := Lib.hid h.ok
  have HSM := Lib.hid h.disk.ok.small
  unfold pageV
  by_cases c : sreachE s i = 0
  · obtain ⟨c1, c2⟩ := sreach_zero c
    have c3 := of_decide_eq_true c2
    obtain ⟨k, rfl⟩ := Int.eq_ofNat_of_zero_le c3.1
    have hk : k < s.dk.last.length := by omega
    have hk2 : k ≤ 1000 := by have := h.disk.ok.small; omega
    have HK := Lib.hid hk
    have HC2 := Lib.hid c2
    rw [c] at HR
    have HLK := Lib.hid (fun (W : World) (hW : PtAt w b s p W) => hW.st.step.look k hk2)
    obtain ⟨q, hj, _⟩ := h.ja
    have HRM := Lib.hid (fun (W : World) (hW : PtAt w b s p W) (n : Nat) => show Calls Tryz.prog 119 #[.pointer (some ⟨b.j, 0, none⟩)] (W.drewN n) fun e w' => e = .returned (.int .i64 (s.r : Int)) ∧ w' = W.drewN n from by
      obtain ⟨q', hj', _⟩ := (hW.st.drewN n).ja
      exact (mroom_any hj' hW.st.ok.room).mono fun e w' ⟨h1, h2⟩ => ⟨h1, h2.symm⟩)
    have HLN := Lib.hid (fun (W : World) (hW : PtAt w b s p W) (n : Nat) (ty : TypeId) => (hW.st.drewN n).step.len ty)
    clear h hp hj
    by_cases f : (s.step.getD k none).isSome = false ∧ s.r ≤ cntO s.step
    · have HE : Hid (sputE s (k : Int) = 28) := Lib.hid (by unfold sputE; rw [if_pos c, Int.toNat_natCast, if_pos f])
      have HF : Hid (sput s (k : Int) p = s) := Lib.hid (by unfold sput; rw [HE.out]; rfl)
      obtain ⟨f1, f2⟩ := f
      rw [HE.out, HF.out]
      have f3 : (s.r : Int) ≤ (cntO s.step : Int) := by omega
      rw [f1] at HLK
      have HG : Hid (s.step.getD k none = none) := Lib.hid (by cases e : s.step.getD k none with | none => rfl | some x => rw [e] at f1; cases f1)
      rw [HG.out] at HLK
      simp only [Option.getD_none] at HLK
      unfold cntO at f3
      generalize List.countP (fun x => x.isSome) s.step = N at HLN f3
      clear HE HF f1 f2 c c1 c2 c3 hk hk2 HG
      go_enter Tryz.func76, Tryz.ntmps76
      go_wp2_with fail
      generalize w.alloc (.cells (byteVals p).toArray 97) = w1 at HS HR ⊢
      refine HR.out.mono ?_
      rintro e w2 ⟨rfl, hB2⟩
      have HS2 := Lib.hid (HS.out.next hB2)
      clear hB2 HR HS
      have c4 := HS2.out.st.c4
      have hlook := HLK.out w2 HS2.out
      go_wp2_with (first
        | ((with_reducible refine wpList_store_new rfl (.tmp 8) (.tmp 23) rfl rfl ?_ ?_ zeros_length ?_); (exact rfl); (exact rfl); intro W3 hP hB3 hz3; clear hlook; have HS3 := Lib.hid (HS2.out.next hB3); clear hP hB3 hz3 c4))
      have c4 := HS3.out.st.c4
      have c0 := HS3.out.st.c0
      have hln := HLN.out W3 HS3.out
      go_quiet ((go_at_call 119; refine Calls.quiet_of_same (HRM.out W3 HS3.out _)))
      go_wp2
      go_ret
      exact ⟨rfl, HS3.out.st.drewN _, Only.below (HS3.out.bel.trans (below_drewN _ _))⟩
    · have HE : Hid (sputE s (k : Int) = 0) := Lib.hid (by unfold sputE; rw [if_pos c, Int.toNat_natCast, if_neg f])
      have HF : Hid (sput s (k : Int) p = { s with step := s.step.set k (some p) }) := Lib.hid (by unfold sput; rw [if_pos HE.out, Int.toNat_natCast])
      rw [HE.out, HF.out]
      have HOK := Lib.hid (sput_ok HT.out HP.out HC2.out f)
      have HST := Lib.hid (show k < s.step.length by rw [HT.out.slen]; exact HK.out)
      have HST2 := Lib.hid (show s.step.length ≤ 1000 by rw [HT.out.slen]; have := HSM.out; omega)
      cases g : s.step.getD k none with
      | some x =>
        rw [g] at HLK
        simp only [Option.getD_some, Option.isSome_some] at HLK
        have HX := Lib.hid (HT.out.spg k x g).1
        clear HE HF c c1 c2 c3 hk hk2 f g
        go_enter Tryz.func76, Tryz.ntmps76
        go_wp2_with fail
        generalize w.alloc (.cells (byteVals p).toArray 97) = w1 at HS HR ⊢
        refine HR.out.mono ?_
        rintro e w2 ⟨rfl, hB2⟩
        have HS2 := Lib.hid (HS.out.next hB2)
        clear hB2 HR HS
        have c4 := HS2.out.st.c4
        have hlook := HLK.out w2 HS2.out
        go_wp2_with (first
          | ((with_reducible refine wpList_store_new rfl (.tmp 8) (.tmp 23) rfl rfl ?_ ?_ HX.out ?_); (exact rfl); (exact rfl); intro W3 hP hB3 hz3; clear hlook; have HS3 := Lib.hid (HS2.out.next hB3); clear hP hB3 hz3 c4))
        have c4 := HS3.out.st.c4
        go_quiet (fail)
        have HS4 := Lib.hid (HS3.out.next (below_drewN _ nq))
        generalize W3.drewN nq = w4 at HS4 ⊢
        have c4' : w4.drew.cell? ⟨b.s, 4, none⟩ = some (.map (some b.t)) := HS4.out.st.c4
        go_wp2_with fail
        refine wp_region_still_tail 6 (by kernel_rfl) (by kernel_rfl) ?_
        simp only [List.take_succ_cons, List.take_zero, List.drop_succ_cons, List.drop_zero]
        change wpStill _ _ w4.drew (fun a' => wpList _ _ _ _ a' w4.drew) _ _
        still_step
        still_step
        still_step
        still_step
        still_step
        refine wpStill_load_page (HS4.out.page.block rfl) rfl (.tmp 5) rfl rfl ?_
        refine wpStill_nil ?_
        refine wpList_map_store (HS4.out.st.step.block (w' := w4.drew) rfl) k HST.out HST2.out HP.out rfl (.tmp 43) (.tmp 44) (.tmp 45) rfl rfl rfl rfl ?_
        intro w5 hm5 ht5
        go_wp2
        go_ret
        have ho : Only [b.t] w4.drew w5 := Only.grown ht5.grown (by simp)
        exact ⟨rfl, HS4.out.st.drew.setStep ho hm5 HOK.out, (Only.below HS4.out.bel).drew.trans ho⟩
      | none =>
        rw [g] at HLK
        simp only [Option.getD_none, Option.isSome_none] at HLK
        have f3 : ¬ ((s.r : Int) ≤ (cntO s.step : Int)) := fun q => f ⟨by rw [g]; rfl, by omega⟩
        have f4 : decide ((s.r : Int) ≤ (cntO s.step : Int)) = false := decide_eq_false f3
        unfold cntO at f3 f4
        generalize List.countP (fun x => x.isSome) s.step = N at HLN f3 f4
        clear HE HF c c1 c2 c3 hk hk2 f g
        go_enter Tryz.func76, Tryz.ntmps76
        go_wp2_with fail
        generalize w.alloc (.cells (byteVals p).toArray 97) = w1 at HS HR ⊢
        refine HR.out.mono ?_
        rintro e w2 ⟨rfl, hB2⟩
        have HS2 := Lib.hid (HS.out.next hB2)
        clear hB2 HR HS
        have c4 := HS2.out.st.c4
        have hlook := HLK.out w2 HS2.out
        go_wp2_with (first
          | ((with_reducible refine wpList_store_new rfl (.tmp 8) (.tmp 23) rfl rfl ?_ ?_ zeros_length ?_); (exact rfl); (exact rfl); intro W3 hP hB3 hz3; clear hlook; have HS3 := Lib.hid (HS2.out.next hB3); clear hP hB3 hz3 c4))
        have c4 := HS3.out.st.c4
        have c0 := HS3.out.st.c0
        have hln := HLN.out W3 HS3.out
        go_quiet ((go_at_call 119; refine Calls.quiet_of_same (HRM.out W3 HS3.out _)))
        have HS4 := Lib.hid (HS3.out.next (below_drewN _ nq))
        generalize W3.drewN nq = w4 at HS4 ⊢
        have c4' : w4.drew.cell? ⟨b.s, 4, none⟩ = some (.map (some b.t)) := HS4.out.st.c4
        go_wp2_with fail
        refine wp_region_still_tail 6 (by kernel_rfl) (by kernel_rfl) ?_
        simp only [List.take_succ_cons, List.take_zero, List.drop_succ_cons, List.drop_zero]
        change wpStill _ _ w4.drew (fun a' => wpList _ _ _ _ a' w4.drew) _ _
        still_step
        still_step
        still_step
        still_step
        still_step
        refine wpStill_load_page (HS4.out.page.block rfl) rfl (.tmp 5) rfl rfl ?_
        refine wpStill_nil ?_
        refine wpList_map_store (HS4.out.st.step.block (w' := w4.drew) rfl) k HST.out HST2.out HP.out rfl (.tmp 43) (.tmp 44) (.tmp 45) rfl rfl rfl rfl ?_
        intro w5 hm5 ht5
        go_wp2
        go_ret
        have ho : Only [b.t] w4.drew w5 := Only.grown ht5.grown (by simp)
        exact ⟨rfl, HS4.out.st.drew.setStep ho hm5 HOK.out, (Only.below HS4.out.bel).drew.trans ho⟩
  · have HE : Hid (sputE s i = sreachE s i) := Lib.hid (by unfold sputE; rw [if_neg c])
    have HF : Hid (sput s i p = s) := Lib.hid (by unfold sput; rw [HE.out, if_neg c])
    rw [HE.out, HF.out]
    have hne2 : (sreachE s i == 0) = false := by simpa using c
    have hne3 : (sreachE s i != 0) = true := by simpa using c
    generalize sreachE s i = E at HR hne2 hne3 ⊢
    clear c HE HF h hp
    go_enter Tryz.func76, Tryz.ntmps76
    go_wp2_with fail
    generalize w.alloc (.cells (byteVals p).toArray 97) = w1 at HS HR ⊢
    refine HR.out.mono ?_
    rintro e w2 ⟨rfl, hB2⟩
    have HS2 := Lib.hid (HS.out.next hB2)
    clear hB2 HR HS
    go_wp2
    go_ret
    exact ⟨rfl, HS2.out.st, Only.below HS2.out.bel⟩
end

section
open Go.RowKit Go.Maps
open Dk (zeros zeros_length)
open Jn (Chg)
def mixP (g t : Pgs) (left : Nat → Bool) : Pgs := (List.range g.length).map fun i => if left i then g.getD i none else (t.getD i none).or (g.getD i none)
theorem mixP_length (g t : Pgs) (left : Nat → Bool) : (mixP g t left).length = g.length := by unfold mixP; simp
theorem mixP_at (g t : Pgs) (left : Nat → Bool) (i : Nat) (hi : i < g.length) : (mixP g t left).getD i none = if left i then g.getD i none else (t.getD i none).or (g.getD i none) := by
  unfold mixP
  rw [List.getD_eq_getElem?_getD, List.getElem?_map, List.getElem?_range hi]; rfl
theorem mixP_start (g t : Pgs) (left : Nat → Bool) (h : ∀ i, i < g.length → left i = false → t.getD i none = none) : mixP g t left = g := by
  refine pgs_ext (mixP_length _ _ _) (fun i hi => ?_)
  rw [mixP_length] at hi
  rw [mixP_at _ _ _ _ hi]
  cases e : left i with
  | true => rfl
  | false => rw [h i hi e]; rfl
theorem mixP_end (g t : Pgs) (left : Nat → Bool) (h : ∀ i, left i = false) : mixP g t left = joinP g t := by
  unfold mixP joinP
  apply List.map_congr_left
  intro i _
  rw [h i]; rfl
theorem mixP_step (g t : Pgs) (left left' : Nat → Bool) (i : Nat) (p : List UInt8) (hi : i < g.length) (hp : t.getD i none = some p) (h1 : left' i = false) (h2 : ∀ j, j ≠ i → left' j = left j) : (mixP g t left).set i (some p) = mixP g t left' := by
  refine pgs_ext (by rw [List.length_set, mixP_length, mixP_length]) (fun j hj => ?_)
  rw [List.length_set, mixP_length] at hj
  rw [pgs_set_at _ _ _ _ (by rw [mixP_length]; exact hi), mixP_at _ _ left' _ hj]
  by_cases e : i = j
  · subst e
    rw [if_pos rfl, h1, hp]; rfl
  · rw [if_neg e, mixP_at _ _ left _ hj, h2 j (fun q => e q.symm)]
theorem cameP {c : Pgs} {D : DataW (List UInt8)} (hD : MapIs D c) {x : Int} {p : List UInt8} {kl : Lit} {y : DataW (List UInt8) × List MemPlace} (hkey : keyOf Tryz.prog 3 (.int .i64 x) = some kl) (hl : Maps.has D kl = true) (hv : pageR (pageV p) = some y) (hat : ∀ zd, D.atKey kl zd = y.1) :
    ∃ i : Nat, x = (i : Int) ∧ kl = .int .i64 (i : Int) ∧ i < c.length ∧ c.getD i none = some p ∧ p.length = 64 := by
  obtain ⟨x', ex, rfl, _⟩ := Maps.keyOf_int_inv Tryz.underlying3 hkey
  injection ex with _ ex
  subst ex
  rw [hD.has] at hl
  have h0 : 0 ≤ x ∧ (c.getD x.toNat none).isSome = true := by simpa using hl
  obtain ⟨i, rfl⟩ := Int.eq_ofNat_of_zero_le h0.1
  rw [Int.toNat_natCast] at h0
  obtain ⟨q, hq⟩ := Option.isSome_iff_exists.1 h0.2
  obtain ⟨q', hq', e1, e2⟩ := pageR_inv hv
  have hcq := pageV_inj e1
  have := hD.held i q hq .nil
  rw [hat, e2] at this
  injection this with this
  exact ⟨i, rfl, rfl, pgs_lt hq, by rw [hq, hcq, this], by rw [hcq]; exact hq'⟩
theorem start_left {g t : Pgs} {D : DataW (List UInt8)} (hD : MapIs D t) : mixP g t (fun i => Maps.has D (.int .i64 (i : Int))) = g := mixP_start _ _ _ (fun i _ e => by
  rw [hD.has, Int.toNat_natCast] at e
  cases hc : t.getD i none with
  | none => rfl
  | some p => rw [hc] at e; simp at e)
theorem step_left {g t : Pgs} {left : Lit → Bool} {i : Nat} {p : List UInt8} (hi : i < g.length) (hp : t.getD i none = some p) : (mixP g t (fun i => left (.int .i64 (i : Int)))).set i (some p) = mixP g t (fun j => left (.int .i64 (j : Int)) && !(Lit.int .i64 (j : Int)).sameKey (.int .i64 (i : Int))) :=
  mixP_step _ _ _ _ i p hi hp (by simp [Lit.sameKey]) (fun j hj => by
    have hne : (j : Int) ≠ (i : Int) := by omega
    simp [Lit.sameKey, hne])
structure CopyAt (w0 : World) (g t r : Nat) (cg ct : Pgs) (D : DataW (List UInt8)) (left : Lit → Bool) (cnt : Nat) (w : World) : Prop where
  rg : w.ranges Tryz.prog 3 pageR t r (Maps.size D) D left cnt
  map : MapAt w g (mixP cg ct (fun i => left (.int .i64 (i : Int))))
  only : Only [g] w0 w
  sub : ∀ kl, left kl = true → Maps.has D kl = true
theorem CopyAt.next {w0 w w1 w2 : World} {g t r : Nat} {cg ct : Pgs} {D : DataW (List UInt8)} {left left' : Lit → Bool} {cnt cnt' : Nat} (h : CopyAt w0 g t r cg ct D left cnt w) (hr : w0.heap.size ≤ r) (hg : g < w0.heap.size)
    (hrg : w1.ranges Tryz.prog 3 pageR t r (Maps.size D) D left' cnt') (hgr : w.grownBy w1 (some r)) (hb : Below w1.heap.size w1 w2) :
    w2.ranges Tryz.prog 3 pageR t r (Maps.size D) D left' cnt' ∧ MapAt w2 g (mixP cg ct (fun i => left (.int .i64 (i : Int)))) ∧ Only [g] w0 w2 := by
  refine ⟨hrg.kept (row := none) ⟨hb.os, hb.tape, hb.output, hb.size, fun k hk _ => hb.block k hk⟩ (by simp) (by simp), ?_, (h.only.newer (Only.grown hgr (by simp)) hr).trans (Only.below hb)⟩
  have hlt : g < w.heap.size := Nat.lt_of_lt_of_le hg h.only.size
  exact (h.map.block (hgr.block g hlt (fun e => by injection e with e; omega))).block (hb.block g (Nat.lt_of_lt_of_le hlt hgr.size))
theorem copy_step {w0 w2 w3 : World} {g t r : Nat} {cg ct : Pgs} {D : DataW (List UInt8)} {left : Lit → Bool} {cnt' i : Nat} {p : List UInt8} (hgt : g ≠ t) (hr : w0.heap.size ≤ r) (hg : g < w0.heap.size) (hsub : ∀ kl, left kl = true → Maps.has D kl = true)
    (hrg : w2.ranges Tryz.prog 3 pageR t r (Maps.size D) D (fun z => left z && !z.sameKey (.int .i64 (i : Int))) cnt') (ho : Only [g] w0 w2) (hi : i < cg.length) (hp : ct.getD i none = some p)
    (hm : MapAt w3 g ((mixP cg ct (fun i => left (.int .i64 (i : Int)))).set i (some p))) (ht : w2.mapTurned w3 g) : CopyAt w0 g t r cg ct D (fun z => left z && !z.sameKey (.int .i64 (i : Int))) cnt' w3 where
  rg := hrg.kept (row := some g) ht.grown (fun e => by injection e with e; exact hgt e.symm) (fun e => by injection e with e; omega)
  map := by rw [← step_left hi hp]; exact hm
  only := ho.trans (Only.grown ht.grown (by simp))
  sub := fun kl e => hsub kl (by simp at e; exact e.1)
theorem copy_any {w : World} {g t : Nat} {cg ct : Pgs} (hg : MapAt w g cg) (ht : MapAt w t ct) (hgt : g ≠ t) (hl : ct.length = cg.length) (hl2 : cg.length ≤ 1000) :
    Calls Tryz.prog 122 #[.map (some g), .map (some t)] w fun e w' => e = .returned (.tuple #[]) ∧ MapAt w' g (joinP cg ct) ∧ Only [g] w w' := by
  obtain ⟨D, hown, hD⟩ := ht
  have HD := Lib.hid hD
  have HG := Lib.hid hg
  have HGL := Lib.hid hg.lt
  have HGT := Lib.hid hgt
  have HL := Lib.hid hl
  have HL2 := Lib.hid hl2
  clear hD hg hgt hl hl2
  go_enter Tryz.func122, Tryz.ntmps122
  go_wp2_with (at_range; refine wpList_range_own _ rfl _ 91 rfl 3 97 keyLaw Tryz.underlying91 pageR t (Maps.size D) D rfl hown ?_; intro w0 hrg0 hg0 hs0)
  go_frame
  have HST : Hid (CopyAt w g t w.heap.size cg ct D (Maps.has D) (Maps.size D) w0) := Lib.hid ⟨hrg0, by rw [start_left HD.out]; exact HG.out.block (hg0.block g HGL.out (by simp)), Only.grownNone hg0, fun _ h => h⟩
  clear hrg0 hg0 hs0 hown
  go_loopw [8] (fun _ wr => ∃ (left : Lit → Bool) (cnt : Nat), CopyAt w g t w.heap.size cg ct D left cnt wr) (fun _ wr => wr.rangeLeft t w.heap.size)
  case atStart => exact ⟨_, _, HST.out⟩
  case round =>
    obtain ⟨left, cnt, hfl⟩ := hrel
    have HFL := Lib.hid hfl
    have hrg := hfl.rg
    clear hfl HST
    go_wp2_with (at_next; refine wpList_next_ranges _ rfl _ rfl 3 keyLaw pageR (Value.int .i64) pageV invK invV t w.heap.size (Maps.size D) D left cnt rfl hrg ?_ ?_)
    · intro _ hl0
      have HL0 := Lib.hid hl0
      clear hl0
      go_wp2
      go_end0
      refine ⟨rfl, ?_, HFL.out.only⟩
      rw [← mixP_end cg ct (fun i => left (.int .i64 (i : Int))) (fun i => HL0.out _)]
      exact HFL.out.map
    · intro x c kl y1 y2 w2 cnt2 hkey hlx hv hat hrg2 hlt hg2 hs2 hen
      obtain ⟨i, rfl, rfl, hi, hci, hcl⟩ := cameP (y := (y1, y2)) HD.out hkey (HFL.out.sub _ hlx) hv hat
      have HI : Hid (i < cg.length) := Lib.hid (by rw [← HL.out]; exact hi)
      have HCI := Lib.hid hci
      have HCL := Lib.hid hcl
      have HNX := Lib.hid (fun (W : World) (hb : Below w2.heap.size w2 W) => HFL.out.next (Nat.le_refl _) HGL.out hrg2 hg2 hb)
      have HLT := Lib.hid hlt
      clear hkey hlx hv hat hci hcl hi hs2 hlt hg2
      go_wp2_with (first
        | ((with_reducible refine wpList_store_new rfl (.tmp 5) (.tmp 12) rfl rfl ?_ ?_ HCL.out ?_); (exact rfl); (exact rfl); intro W2 hP hB2 hz2; have HQ := Lib.hid (HNX.out W2 hB2); clear hen hB2 hz2)
        | (with_reducible refine wpList_load_page hP rfl (.tmp 5) rfl rfl ?_)
        | (at_mapUpdate; go_must (refine wpList_map_store HQ.out.2.1 i (by rw [mixP_length]; exact HI.out) (by rw [mixP_length]; exact HL2.out) HCL.out rfl (.tmp 13) (.tmp 14) (.tmp 15) rfl rfl rfl rfl ?_); intro W3 hm3 ht3; have HC3 := Lib.hid (copy_step HGT.out (Nat.le_refl _) HGL.out HFL.out.sub HQ.out.1 HQ.out.2.2 HI.out HCI.out hm3 ht3); clear hm3 ht3))
      go_frame
      go_wp2
      go_roundw
      case rel => exact ⟨_, _, HC3.out⟩
      case measure => rw [HC3.out.rg.left_eq, hrg.left_eq]; exact HLT.out
structure TogAt (w0 : World) (t r : Nat) (D : DataW (List UInt8)) (left : Lit → Bool) (cnt : Nat) (w : World) : Prop where
  rg : w.ranges Tryz.prog 3 pageR t r (Maps.size D) D left cnt
  bel : Below w0.heap.size w0 w
  sub : ∀ kl, left kl = true → Maps.has D kl = true
theorem TogAt.next {w0 w w1 w2 : World} {t r : Nat} {D : DataW (List UInt8)} {left : Lit → Bool} {cnt cnt' i : Nat} (h : TogAt w0 t r D left cnt w) (hr : w0.heap.size ≤ r)
    (hrg : w1.ranges Tryz.prog 3 pageR t r (Maps.size D) D (fun z => left z && !z.sameKey (.int .i64 (i : Int))) cnt') (hgr : w.grownBy w1 (some r)) (hb : Below w1.heap.size w1 w2) : TogAt w0 t r D (fun z => left z && !z.sameKey (.int .i64 (i : Int))) cnt' w2 where
  rg := hrg.kept (row := none) ⟨hb.os, hb.tape, hb.output, hb.size, fun k hk _ => hb.block k hk⟩ (by simp) (by simp)
  bel := (h.bel.trans ((Only.grown (l := [r]) hgr (by simp)).toBelow h.bel.size (fun k hk => by rw [List.mem_singleton] at hk; omega))).trans (hb.mono (Nat.le_trans h.bel.size hgr.size))
  sub := fun kl e => h.sub kl (by simp at e; exact e.1)
theorem cnt_mix {g t : Pgs} {left : Lit → Bool} {i : Nat} {p : List UInt8} (hi : i < g.length) (hp : t.getD i none = some p) (hl : left (.int .i64 (i : Int)) = true) :
    cntO (mixP g t (fun j => left (.int .i64 (j : Int)) && !(Lit.int .i64 (j : Int)).sameKey (.int .i64 (i : Int)))) = if (g.getD i none).isSome then cntO (mixP g t (fun i => left (.int .i64 (i : Int)))) else cntO (mixP g t (fun i => left (.int .i64 (i : Int)))) + 1 := by
  rw [← step_left hi hp, cntO_set _ _ _ (by rw [mixP_length]; exact hi), mixP_at _ _ _ _ hi, hl]; rfl
theorem cntO_le (c : Pgs) : cntO c ≤ c.length := List.countP_le_length
theorem stog_any {w : World} {b : Blk} {s : Sto} (h : StoreAt w b s) : Calls Tryz.prog 120 #[.pointer (some ⟨b.s, 0, none⟩)] w fun e w' => e = .returned (.int .i64 (stog s : Int)) ∧ Below w.heap.size w w' := by
  have HS := Lib.hid h
  have c4 := h.c4
  have c5 := h.c5
  have hlen := h.group.len
  obtain ⟨D, hown, hD⟩ := h.step
  have HD := Lib.hid hD
  have HL : Hid (s.step.length = s.group.length) := Lib.hid (by rw [h.ok.slen, h.ok.glen])
  have HN : Hid (s.group.length ≤ 1000) := Lib.hid (by rw [h.ok.glen]; have := h.disk.ok.small; omega)
  have HST0 : Hid (cntO (mixP s.group s.step (fun i => Maps.has D (.int .i64 (i : Int)))) = List.countP (fun x => x.isSome) s.group) := Lib.hid (by rw [start_left HD.out]; rfl)
  clear h hD
  generalize List.countP (fun x => x.isSome) s.group = n0 at hlen HST0
  go_enter Tryz.func120, Tryz.ntmps120
  go_wp2_with (at_range; refine wpList_range_own _ rfl _ 91 rfl 3 97 keyLaw Tryz.underlying91 pageR b.t (Maps.size D) D rfl hown ?_; intro w0 hrg0 hg0 hs0)
  go_frame
  have HST : Hid (TogAt w b.t w.heap.size D (Maps.has D) (Maps.size D) w0) := Lib.hid ⟨hrg0, (Only.grownNone (l := []) hg0).toBelow (Nat.le_refl _) (by simp), fun _ h => h⟩
  clear hrg0 hg0 hs0 hown hlen c4 c5
  go_loopw [3] (fun i wr => ∃ (left : Lit → Bool) (cnt : Nat), i = .int .i64 (cntO (mixP s.group s.step (fun i => left (.int .i64 (i : Int)))) : Int) ∧ TogAt w b.t w.heap.size D left cnt wr) (fun _ wr => wr.rangeLeft b.t w.heap.size)
  case atStart => exact ⟨_, _, by rw [HST0.out], HST.out⟩
  case round =>
    obtain ⟨left, cnt, rfl, hfl⟩ := hrel
    have HFL := Lib.hid hfl
    have hrg := hfl.rg
    have HW := Lib.hid (HS.out.below hfl.bel)
    clear hfl HST
    obtain ⟨N, hNN⟩ : ∃ N, cntO (mixP s.group s.step (fun i => left (.int .i64 (i : Int)))) = N := ⟨_, rfl⟩
    have HNN := Lib.hid hNN
    have hN : N ≤ 1000 := by rw [← hNN]; exact Nat.le_trans (cntO_le _) (by rw [mixP_length]; exact HN.out)
    rw [hNN]
    clear hNN
    go_wp2_with (at_next; refine wpList_next_ranges _ rfl _ rfl 3 keyLaw pageR (Value.int .i64) pageV invK invV b.t w.heap.size (Maps.size D) D left cnt rfl hrg ?_ ?_)
    · intro _ hl0
      have HL0 := Lib.hid hl0
      clear hl0
      go_wp2
      go_ret
      refine ⟨?_, HFL.out.bel⟩
      unfold stog
      rw [← mixP_end s.group s.step (fun i => left (.int .i64 (i : Int))) (fun i => HL0.out _), HNN.out]
      rfl
    · intro x c kl y1 y2 w2 cnt2 hkey hlx hv hat hrg2 hlt hg2 hs2 hen
      obtain ⟨i, rfl, rfl, hi, hci, hcl⟩ := cameP (y := (y1, y2)) HD.out hkey (HFL.out.sub _ hlx) hv hat
      have HI : Hid (i < s.group.length) := Lib.hid (by rw [← HL.out]; exact hi)
      have hi2 : i ≤ 1000 := by have := HI.out; have := HN.out; omega
      have HCM := Lib.hid (cnt_mix HI.out hci hlx)
      rw [HNN.out] at HCM
      have HNX := Lib.hid (fun (W : World) (hb : Below w2.heap.size w2 W) => HFL.out.next (Nat.le_refl _) hrg2 hg2 hb)
      have HLT := Lib.hid hlt
      have HW2 := Lib.hid (HS.out.below (HFL.out.next (Nat.le_refl _) hrg2 hg2 (Below.refl _ _)).bel)
      have c5 := HW2.out.c5
      have hlook := HW2.out.group.look i hi2
      have HGP := Lib.hid (fun p (e : s.group.getD i none = some p) => (HS.out.ok.gpg i p e).1)
      clear hkey hlx hv hat hci hcl hi hs2 hlt hg2
      cases hgi : s.group.getD i none with
      | some q =>
        rw [hgi] at hlook HCM HGP
        simp only [Option.getD_some, Option.isSome_some] at hlook HCM
        have HQ := Lib.hid (HGP.out q rfl)
        go_wp2_with (first
          | ((with_reducible refine wpList_store_new rfl (.tmp 5) (.tmp 28) rfl rfl ?_ ?_ HQ.out ?_); (exact rfl); (exact rfl); intro W2 hP hB2 hz2; have HT := Lib.hid (HNX.out W2 hB2); clear hen hB2 hz2 hlook c5))
        go_roundw
        case rel => exact ⟨_, _, by rw [HCM.out]; rfl, HT.out⟩
        case measure => rw [HT.out.rg.left_eq, hrg.left_eq]; exact HLT.out
      | none =>
        rw [hgi] at hlook HCM
        simp only [Option.getD_none, Option.isSome_none] at hlook HCM
        go_wp2_with (first
          | ((with_reducible refine wpList_store_new rfl (.tmp 5) (.tmp 28) rfl rfl ?_ ?_ zeros_length ?_); (exact rfl); (exact rfl); intro W2 hP hB2 hz2; have HT := Lib.hid (HNX.out W2 hB2); clear hen hB2 hz2 hlook c5))
        go_roundw
        case rel => exact ⟨_, _, by rw [HCM.out]; go_num, HT.out⟩
        case measure => rw [HT.out.rg.left_eq, hrg.left_eq]; exact HLT.out
end

section
open Go.RowKit Go.Maps Go.Sort Go.Shelf
open Jn (Chg)
theorem sortsA (m : Nat) : AnyZI.SortsIn Tryz.prog sortedA_ren Fence.wide m :=
  ⟨fun blk off cap ss W hH hblk hsz => callsIn_wide.2 (AnyM.slices_Sort_int sortA blk off cap ss W hH hblk hsz),
   fun p cap W => callsIn_wide.2 (AnyM.slices_Sort_int_none sortA p cap W)⟩
theorem keys_c (mb : Option Nat) (W : World) : Calls Tryz.prog 177 #[.map mb] W fun e w' => e = .returned (.func (.func 196) #[] #[.pointer (some ⟨W.heap.size, 0, none⟩)]) ∧ w' = W.alloc (.cells #[.map mb] 91) :=
  (callsIn_wide (n := 5)).1 (AnyZI.keys_in keysA Fence.wide 5 trivial rfl mb W)
theorem sorted_c {H : Type} (b nn : Nat) (D0 : DataW H) (R : Value → Option (DataW H × List MemPlace)) (w : World) (hown : w.ownsMap Tryz.prog 3 R b nn D0) (hmax : Maps.size D0 ≤ maxLen) (hbytes : Maps.size D0 * 8 ≤ 140737488355328) :
    Calls Tryz.prog 176 #[.func (.func 196) #[] #[.pointer (some ⟨w.heap.size, 0, none⟩)]] (w.alloc (.cells #[.map (some b)] 91)) fun e w' => ∃ (v : Value) (ss : List Int), e = .returned v ∧ ss.Perm (intKeys D0) ∧
      w'.ownsRow w.heap.size 3 1 v ss.length ((ss.mergeSort (fun x y => decide (x ≤ y))).map encZ) ∧ Below w.heap.size w w' := by
  refine (callsIn_wide (n := 5)).1 ?_
  have hbl := hown.lt
  have hseq : SeqGives Fence.wide 2 Tryz.prog 196 #[.pointer (some ⟨w.heap.size, 0, none⟩)] encZ (fun ss => ss.Perm (intKeys D0)) (Maps.size D0) (w.alloc (.cells #[.map (some b)] 91)) :=
    AnyZI.keys_gives (ρ := keysA_ren) { keysA with } Fence.wide _ trivial rfl (by omega) w.heap.size b nn D0 _ (by simp) (by simp) (by
      obtain ⟨es, clock, hb, Ft, hs, hD⟩ := hown
      exact ⟨es, clock, (Below.heap_alloc _ _ b hbl).trans hb, Ft, hs, hD⟩)
  have cS := AnyZI.sorted_in sortedA Fence.wide 5 trivial trivial trivial trivial rfl (by omega) (sortsA _) (enters_of Tryz.func195 (by kernel_rfl) rfl) 196 #[.pointer (some ⟨w.heap.size, 0, none⟩)] trivial (enters_of Tryz.func196 (by kernel_rfl) rfl) _ _ hmax hbytes _ hseq
  refine cS.mono ?_
  rintro e w' ⟨v, ss, rfl, hS, hrow, hnil, hb⟩
  exact ⟨v, ss, rfl, hS, ownsRow_base_a hrow (by simp), ((Below.refl _ w).alloc (Nat.le_refl _) _).trans (hb.mono (by simp))⟩
theorem keys_chgs {w : World} {b n : Nat} {D : DataW (List UInt8)} {c : Pgs} (hown : w.ownsMap Tryz.prog 3 pageR b n D) (hD : MapIs D c) {ss : List Int} (hs : ss.Perm (intKeys D)) : ss.mergeSort (fun x y => decide (x ≤ y)) = (chgs c).map (·.no) := by
  obtain ⟨es, hE, hpw, _⟩ := hown.entries keyLaw
  obtain ⟨es', hE', hko⟩ := hown.keysOf
  obtain rfl : es = es' := by rw [hE] at hE'; simpa using hE'
  subst hE
  have hp := chgs_pw c
  have hpw' : ((chgs c).map (·.no)).Pairwise (fun x y => x < y) := List.pairwise_map.2 hp
  have hk : ((chgs c).map (·.no)).Perm (intKeys (.map es)) := perm_intKeys hpw (fun p hp => by obtain ⟨v, hv⟩ := hko p hp; obtain ⟨x, _, hx, _⟩ := Maps.keyOf_i64 Tryz.underlying3 hv; exact ⟨x, hx⟩) (hpw'.imp fun h => Int.ne_of_lt h) (fun x => by
    rw [hD.has, List.mem_map]
    constructor
    · rintro ⟨y, hy, rfl⟩
      obtain ⟨k, h1, h2⟩ := chgs_mem.1 hy
      rw [h1, Int.toNat_natCast, h2]; simp
    · intro h
      have h0 : 0 ≤ x ∧ (c.getD x.toNat none).isSome = true := by simpa using h
      obtain ⟨k, rfl⟩ := Int.eq_ofNat_of_zero_le h0.1
      rw [Int.toNat_natCast] at h0
      obtain ⟨q, hq⟩ := Option.isSome_iff_exists.1 h0.2
      exact ⟨⟨(k : Int), q⟩, chgs_mem.2 ⟨k, rfl, hq⟩, rfl⟩)
  rw [show (fun x y : Int => decide (x ≤ y)) = leI from rfl, mergeSort_of_perm_i (hs.trans hk.symm)]
  exact List.mergeSort_of_pairwise (hpw'.imp fun h => by simp only [leI, decide_eq_true_eq]; omega)
theorem sorted_chgs {w : World} {b : Nat} {c : Pgs} (h : MapAt w b c) (hc : c.length ≤ 1000) :
    Calls Tryz.prog 176 #[.func (.func 196) #[] #[.pointer (some ⟨w.heap.size, 0, none⟩)]] (w.alloc (.cells #[.map (some b)] 91)) fun e w' => ∃ v : Value, e = .returned v ∧
      w'.ownsRow w.heap.size 3 1 v (cntO c) ((chgs c).map fun x => Value.int .i64 x.no) ∧ Below w.heap.size w w' := by
  obtain ⟨D, hown, hD⟩ := h
  have hsz : Maps.size D ≤ 1000 := by rw [hD.size]; exact Nat.le_trans List.countP_le_length hc
  refine (sorted_c b _ D pageR w hown (by unfold maxLen; omega) (by omega)).mono ?_
  rintro e w' ⟨v, ss, rfl, hS, hrow, hb⟩
  have hk := keys_chgs hown hD hS
  have hl : ss.length = cntO c := by
    have := congrArg List.length hk
    rw [List.length_mergeSort, List.length_map, chgs_length] at this
    exact this
  rw [hk, hl, List.map_map] at hrow
  exact ⟨v, rfl, hrow, hb⟩
end

section
open Go.RowKit Go.Maps
open Dk (zeros zeros_length)
open Jn (Chg)
theorem chg_type : ∃ i z, Tryz.prog.info? 223 = some i ∧ i.zero = some z ∧ i.size = 65 := by
  obtain ⟨i, hi, hz, hs, _⟩ := info_parts info_chg
  exact ⟨i, _, hi, hz, hs⟩
theorem run_buildChg1 (w : World) (c : Chg) (hp : c.page.length = 64) : (Instr.buildSlice 197 1 #[(0, chgV c)]).run Tryz.prog w = .ok (.slice (some ⟨w.heap.size, 0, none⟩) 1 1) (w.alloc (.cells (chgVals c).toArray 223)) := by
  obtain ⟨i, z, hi, hz, hs⟩ := chg_type
  refine run_buildSlice w 197 223 1 #[(0, chgV c)] _ i z Tryz.underlying197 hi hz (by rw [hs]; omega) (by rw [hs]; omega) ?_
  rw [hs]
  have h := Great.fill_whole (s := 65) (by omega) [chgV c] ((Array.range (1 * 65)).map (z.cells[· % z.cells.size]!)) (fun v hv => by
    rw [List.mem_singleton] at hv
    rw [hv]
    show (chgVals c).toArray.size = 65
    rw [List.size_toArray, chgVals_length hp]) (by simp)
  refine h.trans ?_
  simp [chgV, Value.cells]
theorem wpList_buildChg1 {ops : Array Oper} {rest : List Oper} {o : Oper} {a : Act} {w : World} {Q : Exit → Act → World → Prop} (c : Chg) (hp : c.page.length = 64) (x : Operand) (ho : o.op = .buildSlice 197 1 #[(0, x)]) (hw : Region.wanted o (yielded ops a.tmps) = true) (hx : a.eval x = chgV c)
    (h : wpList Tryz.prog ops Q rest (a.put o.dst (.slice (some ⟨w.heap.size, 0, none⟩) 1 1)) (w.alloc (.cells (chgVals c).toArray 223))) : wpList Tryz.prog ops Q (o :: rest) a w :=
  BigFrame.wpList_want hw fun _ hK => by
    have hr := run_buildChg1 w c hp
    unfold Oper.wp execOp
    simp only [ho, List.map_toArray, List.map_cons, List.map_nil, hx, Sem.run_bind, hr, Result.andThen_ok]
    exact hK _ _ h
theorem run_make_cap (w : World) (n : Nat) (hn : n ≤ 1000) : (Instr.makeSlice 197 (.int .i64 0) (.int .i64 (n : Int))).run Tryz.prog w = .ok (.slice (some ⟨w.heap.size, 0, none⟩) 0 n) (w.alloc (.cells (zeroTab n) 223)) := by
  obtain ⟨i, hi, hz, hs, hb⟩ := info_parts info_chg
  have := run_make (P := Tryz.prog) w 197 223 i (.agg chgZero) Tryz.underlying197 hi hz .i64 .i64 0 (n : Int) (by omega) (by omega) (by rw [hb]; omega) (by omega)
  rw [hs, Int.toNat_natCast] at this
  exact this
theorem owns_made (w : World) (n : Nat) (hn : n ≤ 1000) : (w.alloc (.cells (zeroTab n) 223)).ownsRow w.heap.size 223 65 (.slice (some ⟨w.heap.size, 0, none⟩) 0 n) 0 [] :=
  World.ownsRow_made w _ n (Nat.le_refl _) (by unfold maxLen; omega) (zeroTab_size n)
theorem flat_at (xs : List Chg) (h : ∀ x ∈ xs, x.page.length = 64) : ∀ (i : Nat) (x : Chg) (j : Nat) (v : Value), xs[i]? = some x → (chgVals x)[j]? = some v → (xs.flatMap chgVals)[i * 65 + j]? = some v := by
  induction xs with
  | nil => intro i x j v hx; simp at hx
  | cons y r ih =>
    intro i x j v hx hv
    have hy := chgVals_length (h y (by simp))
    rw [List.flatMap_cons]
    cases i with
    | zero =>
      simp at hx
      subst hx
      have hj : j < 65 := by rw [← hy]; exact (List.getElem?_eq_some_iff.1 hv).1
      rw [Nat.zero_mul, Nat.zero_add, List.getElem?_append_left (by rw [hy]; exact hj)]
      exact hv
    | succ i =>
      rw [List.getElem?_append_right (by rw [hy]; omega), hy, show (i + 1) * 65 + j - 65 = i * 65 + j by omega]
      exact ih (fun z hz => h z (by simp [hz])) i x j v (by simpa using hx) hv
theorem owns_chAt {w : World} {base : Nat} {A : Option Addr} {n c : Nat} {xs : List Chg} (h : w.ownsRow base 223 65 (.slice A n c) n (xs.flatMap chgVals)) (hx : ∀ x ∈ xs, x.page.length = 64) (hn : n = xs.length) {L : List Nat} (hL : ∀ k ∈ L, k < base) : ChAt w A L xs := fun h0 => by
  obtain ⟨h1, h2⟩ := h
  rcases h2 with ⟨e, e2⟩ | ⟨g, cap, cur, e, hb, hg, _, _, hsz, htk⟩
  · exfalso; omega
  · injection e with e _ _
    refine ⟨g, 0, e, (Array.getElem?_eq_some_iff.1 hg).1, fun q => by have := hL g q; omega, fun i x hxi j v hv => ?_⟩
    have hf := flat_at xs hx i x j v hxi hv
    rw [← htk] at hf
    have hlt : i * 65 + j < n * 65 := by
      have := (List.getElem?_eq_some_iff.1 hf).1
      rw [List.length_take] at this; omega
    rw [List.getElem?_take_of_lt hlt] at hf
    simp only [World.cell?, hg, Nat.zero_add]
    simp only [Option.isSome_none, Bool.false_eq_true, if_false]
    rw [← Array.getElem?_toList]
    exact hf
structure ChI (w : World) (cs : List Chg) (g : Nat) (l : Value) (k : Nat) (W : World) : Prop where
  row : W.ownsRow w.heap.size 223 65 l k ((cs.take k).flatMap chgVals)
  keys : ∀ i x, cs[i]? = some x → W.cell? ⟨g, i, none⟩ = some (.int .i64 x.no)
  bel : Below w.heap.size w W
  ne : l.ownBlock ≠ some g
  glt : g < W.heap.size
theorem ChI.next {w : World} {cs : List Chg} {g : Nat} {l l' : Value} {k : Nat} {W W' : World} {x : Chg} (h : ChI w cs g l k W) (hx : cs[k]? = some x) (hrow : W'.ownsRow w.heap.size 223 65 l' (k + 1) ((cs.take k).flatMap chgVals ++ chgVals x))
    (hg : (W.alloc (.cells (chgVals x).toArray 223)).grownBy W' l.ownBlock) (hloc : l'.ownBlock = l.ownBlock ∨ l'.ownBlock = some (W.alloc (.cells (chgVals x).toArray 223)).heap.size) : ChI w cs g l' (k + 1) W' where
  row := by
    obtain ⟨h1, h2⟩ := List.getElem?_eq_some_iff.1 hx
    rw [List.take_succ_eq_append_getElem h1, List.flatMap_append, h2]
    simpa using hrow
  keys := fun i y hy => by
    have e1 : W'.cell? ⟨g, i, none⟩ = (W.alloc (.cells (chgVals x).toArray 223)).cell? ⟨g, i, none⟩ := World.cell?_of_block (a := ⟨g, i, none⟩) (hg.block g (by have := h.glt; simp; omega) (fun e => h.ne e.symm))
    rw [e1]
    exact (((Below.refl W.heap.size W).alloc (Nat.le_refl _) (.cells (chgVals x).toArray 223)).cell (p := ⟨g, i, none⟩) h.glt).trans (h.keys i y hy)
  bel := (h.bel.alloc h.bel.size _).grown hg (by have := h.bel.size; simp; omega) (fun j hj => (h.row.lt j hj).1)
  ne := by
    rcases hloc with e | e
    · rw [e]; exact h.ne
    · rw [e]
      have := h.glt
      intro q
      injection q with q
      simp at q
      omega
  glt := Nat.lt_of_lt_of_le h.glt (Nat.le_trans (by simp) hg.size)
theorem cell_new (w : World) (vs : List Value) (t : TypeId) : ∀ j u, vs[j]? = some u → (w.alloc (.cells vs.toArray t)).cell? ((⟨w.heap.size, 0, none⟩ : Addr).add j) = some u := fun j u hj => by
  have := (rowAt_new w vs t).range j u hj
  rw [Nat.zero_add] at this
  unfold Addr.add
  by_cases e : j = 0
  · subst e; rw [if_pos rfl]; exact this
  · rw [if_neg e, Nat.zero_add]; exact this
theorem owns_slice {w : World} {base : Nat} {e : TypeId} {size : Nat} {v : Value} {k : Nat} {xs : List Value} (h : w.ownsRow base e size v k xs) : ∃ A c, v = .slice A k c := by
  rcases h.2 with ⟨e1, e2⟩ | ⟨g, cap, cur, e1, _⟩
  · exact ⟨none, 0, by rw [e1, e2]⟩
  · exact ⟨_, _, e1⟩
theorem schgs_any {w : World} {b : Blk} {s : Sto} (h : StoreAt w b s) : Calls Tryz.prog 157 #[.pointer (some ⟨b.s, 0, none⟩)] w fun e w' =>
    ∃ (A : Option Addr) (c : Nat), e = .returned (.slice A (chgs s.group).length c) ∧ ChAt w' A b.all (chgs s.group) ∧ Below w.heap.size w w' := by
  have HS := Lib.hid h
  have c5 := h.c5
  have hlen := h.group.len
  have HGL : Hid (s.group.length ≤ 1000) := Lib.hid (by rw [h.ok.glen]; have := h.disk.ok.small; omega)
  have HPG := Lib.hid (chgs_pages h.ok.gpg)
  have HN : Hid (cntO s.group = (chgs s.group).length) := Lib.hid (chgs_length _).symm
  have hn : cntO s.group ≤ 1000 := Nat.le_trans (cntO_le _) HGL.out
  have HLT := Lib.hid h.lt
  have HLK := Lib.hid (fun (W : World) (hW : Below w.heap.size w W) (i : Nat) (hi : i ≤ 1000) => (h.below hW).group.look1 i hi)
  have HC5 := Lib.hid (fun (W : World) (hW : Below w.heap.size w W) => (h.below hW).c5)
  have HMM := Lib.hid (fun x (hx : x ∈ chgs s.group) => chgs_mem.1 hx)
  clear h
  have hlen' : ∀ ty, (Builtin.len_ #[91] ty #[.map (some b.g)]).run Tryz.prog w = .ok (.int .i64 ((chgs s.group).length : Nat)) w := fun ty => by
    rw [← HN.out]; exact hlen ty
  rw [HN.out] at hn
  clear hlen
  have HSR := Lib.hid (fun (W : World) (hW : Below w.heap.size w W) => sorted_chgs (HS.out.below hW).group HGL.out)
  rw [HN.out] at HSR
  generalize chgs s.group = cs at *
  obtain ⟨n, hcn⟩ : ∃ n, cs.length = n := ⟨_, rfl⟩
  have HCN := Lib.hid hcn
  rw [hcn] at hlen' hn HSR HN ⊢
  clear hcn
  have hmk := run_make_cap w n hn
  have HOW := Lib.hid (owns_made w n hn)
  have HW1 : Hid (Below w.heap.size w (w.alloc (.cells (zeroTab n) 223))) := Lib.hid ((Below.refl _ _).alloc (Nat.le_refl _) _)
  have HSZ : Hid (w.heap.size < (w.alloc (.cells (zeroTab n) 223)).heap.size) := Lib.hid (by simp)
  have c5a : (w.alloc (.cells (zeroTab n) 223)).cell? ⟨b.s, 5, none⟩ = some (.map (some b.g)) := HC5.out _ HW1.out
  go_enter Tryz.func157, Tryz.ntmps157
  go_wp2_with fail
  clear hmk hlen' c5
  generalize w.alloc (.cells (zeroTab n) 223) = w1 at HOW HW1 HSZ c5a ⊢
  refine (keys_c _ _).mono ?_
  rintro e w2 ⟨rfl, rfl⟩
  go_wp2_with fail
  refine (HSR.out w1 HW1.out).mono ?_
  rintro e w3 ⟨v, rfl, hrow, hB3⟩
  have HB3 : Hid (Below w.heap.size w w3) := Lib.hid (HW1.out.trans (hB3.mono HW1.out.size))
  have HO3 : Hid (w3.ownsRow w.heap.size 223 65 (.slice (some ⟨w.heap.size, 0, none⟩) 0 n) 0 []) := Lib.hid (HOW.out.kept (row := none) ⟨hB3.os, hB3.tape, hB3.output, hB3.size, fun k hk _ => hB3.block k hk⟩ (Or.inr (by simp [Value.ownBlock])))
  obtain ⟨hl, hh⟩ := hrow
  rcases hh with ⟨rfl, hn0⟩ | ⟨g, cap, cur, rfl, hg1, hg2, hg3, hg4, hg5, hg6⟩
  · have HNIL : Hid (cs = []) := Lib.hid (List.eq_nil_of_length_eq_zero (by rw [HCN.out]; exact hn0))
    subst hn0
    clear hl HSR HOW HW1 HSZ c5a hB3
    go_wp2_with fail
    go_loopw [3, 19] (fun l i wr => l = .slice (some ⟨w.heap.size, 0, none⟩) 0 0 ∧ i = .int .i64 0 ∧ wr = w3) (fun _ _ _ => 0)
    case atStart => exact ⟨rfl, rfl, rfl⟩
    case round =>
      obtain ⟨rfl, rfl, rfl⟩ := hrel
      go_wp2_with fail
      go_ret
      refine ⟨_, _, rfl, ?_, HB3.out⟩
      rw [HNIL.out]
      intro h0
      simp at h0
  · have HK : Hid (∀ i x, cs[i]? = some x → w3.cell? ⟨g, i, none⟩ = some (.int .i64 x.no)) := Lib.hid (fun i x hx => by
      have h1 : (cs.map fun x => Value.int .i64 x.no)[i]? = some (.int .i64 x.no) := by rw [List.getElem?_map, hx]; rfl
      rw [← hg6] at h1
      have hlt : i < n * 1 := by
        have := (List.getElem?_eq_some_iff.1 h1).1
        rw [List.length_take] at this; omega
      rw [List.getElem?_take_of_lt hlt] at h1
      simp only [World.cell?, hg2]
      simp only [Option.isSome_none, Bool.false_eq_true, if_false]
      rw [← Array.getElem?_toList]
      exact h1)
    have HGG : Hid (g < w3.heap.size) := Lib.hid (Array.getElem?_eq_some_iff.1 hg2).1
    have HST : Hid (ChI w cs g (.slice (some ⟨w.heap.size, 0, none⟩) 0 n) 0 w3) := Lib.hid ⟨HO3.out, HK.out, HB3.out, (by have := HSZ.out; simp [Value.ownBlock]; omega), HGG.out⟩
    have HCAP : Hid (cap ≤ maxLen) := Lib.hid hg4
    unfold maxLen at hg4
    clear hl hg1 hg2 hg5 hg6 HK HGG HB3 HO3 HSR HOW HW1 HSZ c5a hB3
    go_wp2_with fail
    go_loopw [3, 19] (fun l i wr => ∃ (A : Option Addr) (c k : Nat), k ≤ n ∧ l = .slice A k c ∧ i = .int .i64 k ∧ ChI w cs g l k wr) (fun _ i _ => n - (intOf i).toNat)
    case atStart => exact ⟨_, _, 0, Nat.zero_le _, rfl, rfl, HST.out⟩
    case round =>
      obtain ⟨A, c, k, hk, rfl, rfl, hci⟩ := hrel
      have HCI := Lib.hid hci
      clear hci HST
      by_cases hlt : k < n
      · obtain ⟨x, hx⟩ : ∃ x, cs[k]? = some x := ⟨_, List.getElem?_eq_getElem (by rw [HCN.out]; exact hlt)⟩
        have HX := Lib.hid hx
        have hcell := HCI.out.keys k x hx
        obtain ⟨i, hi1, hi2⟩ := HMM.out x (List.mem_of_getElem? hx)
        have HXP := Lib.hid (HPG.out x (List.mem_of_getElem? hx))
        have hi3 : i ≤ 1000 := by have := pgs_lt hi2; have := HGL.out; omega
        have hlook := HLK.out wr HCI.out.bel i hi3
        rw [hi2] at hlook
        simp only [Option.getD_some] at hlook
        rw [hi1] at hcell
        have HXE : Hid (x = ⟨(i : Int), x.page⟩) := Lib.hid (by cases x; simp at hi1 ⊢; exact hi1)
        have c5 := HC5.out wr HCI.out.bel
        obtain ⟨i0, hi0, hz0, hs0, hb0⟩ := info_parts info_chg
        have HI0 := Lib.hid hi0
        have HZ0 := Lib.hid hz0
        have HS0 := Lib.hid hs0
        have HB0 := Lib.hid hb0
        clear hx hi1 hi2 hi3 hi0 hz0 hs0 hb0
        have hlt' : (k : Int) < (n : Int) := by omega
        go_wp2_with (first
          | (with_reducible refine wpList_buildChg (i : Int) x.page HXP.out rfl (.tmp 24) (.tmp 30) rfl (some 31) rfl rfl rfl ?_)
          | (with_reducible refine wpList_buildChg1 ⟨(i : Int), x.page⟩ HXP.out (.tmp 31) rfl rfl rfl ?_)
          | (at_builtin; go_must (refine wpList_append_own_at _ rfl (.tmp 23) (.tmp 32) 197 rfl w.heap.size 223 i0 _ 65 72 Tryz.underlying197 HI0.out HZ0.out HS0.out HB0.out chgZero_size (by omega) _ k _ rfl (HCI.out.row.alloc _) ⟨wr.heap.size, 0, none⟩ 1 1 (chgVals ⟨(i : Int), x.page⟩) rfl (chgVals_length HXP.out) (cell_new _ _ _) (chgVals_one _) (by unfold maxLen; omega) (by omega) (by have := HCI.out.bel.size; simp; omega) ?_); intro v' w5 hown' hgrow hnil hloc; obtain ⟨A', c', rfl⟩ := owns_slice hown'; have HNX := Lib.hid (HCI.out.next HX.out (by rw [HXE.out]; exact hown') (by rw [HXE.out]; exact hgrow) (by rw [HXE.out]; exact hloc)); clear hown' hgrow hnil hloc))
        go_roundw
        case rel => exact ⟨_, _, k + 1, by omega, rfl, by go_num, HNX.out⟩
        case measure => simp [intOf]; omega
      · obtain rfl : k = n := by omega
        have HCH : Hid (ChAt wr A b.all cs) := Lib.hid (by
          have hr := HCI.out.row
          rw [List.take_of_length_le (by rw [HCN.out]; exact Nat.le_refl _)] at hr
          exact owns_chAt hr HPG.out HCN.out.symm HLT.out)
        have HBE := Lib.hid HCI.out.bel
        go_wp2_with fail
        go_ret
        exact ⟨_, _, rfl, HCH.out, HBE.out⟩
end

section
open Go.RowKit Go.Maps
open Dk (zeros zeros_length)
open Jn (Chg)
def smid (s : Sto) : Sto := if cntO s.group = 0 then s else scommit s
def Synced (b : Blk) (s : Sto) (w : World) (e : Ending) (w' : World) : Prop := ∃ E, e = .returned (.int .i64 E) ∧ E = ssyncE s ∧ StoreAt w' b (smid s) ∧ Only [b.j, b.d, b.l, b.m] w w'
theorem scommit_call {w : World} {b : Blk} {s : Sto} (h : StoreAt w b s) (ho : s.over = false) (hq0 : 0 ≤ s.q) (hq1 : s.q < 4294967290) (A : Option Addr) (c : Nat) (hc : ChAt w A b.all (chgs s.group)) :
    Calls Tryz.prog 156 #[.pointer (some ⟨b.j, 0, none⟩), .slice A (chgs s.group).length c] w (Synced b s w) := by
  obtain ⟨q, hj, hq⟩ := h.ja
  have hqq := hq ho
  subst hqq
  rw [ho] at hj
  have ne := Blk.ne h.nd
  have hjd : b.j ∉ [b.d, b.l, b.m] := by simp; omega
  have hnn : ¬ s.over = true := by rw [ho]; simp
  have m1 : b.s ∈ b.all ∧ b.t ∈ b.all ∧ b.g ∈ b.all := by simp [Blk.all]
  have m2 : b.s ∉ [b.d, b.l, b.m, b.j] ∧ b.t ∉ [b.d, b.l, b.m, b.j] ∧ b.g ∉ [b.d, b.l, b.m, b.j] := by simp; omega
  have hO := outer_any hj h.disk hjd h.ok.a9 h.ok.z9 h.ok.room h.ok.r32 h.ok.rz h.ok.reg A c (hc.mono (by simp [Blk.all])) (chgs_pages h.ok.gpg) (by rw [chgs_length]; have := h.ok.gcnt; have := h.ok.r32; omega) hq0 hq1
  unfold Comm at hO
  rw [show Jn.runs s.dk (Jn.steps s.a s.q (chgs s.group)) = srun s from rfl] at hO
  have hcok := scommit_ok h.ok
  have hse : ¬ cntO s.group = 0 → ssyncE s = (srun s).2 := fun hz => by unfold ssyncE; rw [if_neg hnn, if_neg hz]
  have hsm : smid s = if cntO s.group = 0 then s else { s with dk := (srun s).1, over := (srun s).2 != 0, q := s.q + 2 } := rfl
  unfold scommit at hcok
  unfold Synced
  rw [hsm]
  generalize srun s = R at *
  refine hO.mono ?_
  rintro e w' (⟨h1, _⟩ | ⟨h1, _⟩ | ⟨h1, rfl, h3⟩ | ⟨hm, rfl, hd, ⟨q', hj', hq'⟩, ho'⟩)
  · rw [chgs_takes h.ok.gpg] at h1; cases h1
  · rw [chgs_length] at h1
    have := h.ok.gcnt
    omega
  · have hz : cntO s.group = 0 := by rw [← chgs_length, h1]; rfl
    refine ⟨0, rfl, ?_, ?_, Only.below h3⟩
    · unfold ssyncE; rw [if_neg hnn, if_pos hz]
    · rw [if_pos hz]; exact h.below h3
  · have hz : ¬ cntO s.group = 0 := by rw [← chgs_length]; have := hm.pos; omega
    refine ⟨_, rfl, (hse hz).symm, ?_, ho'.mono (by simp)⟩
    rw [if_neg hz]
    have e1 : ∀ k, k ∈ b.all → k ∉ [b.d, b.l, b.m, b.j] → w'.heap[k]? = w.heap[k]? := fun k hk hn => ho'.block k (h.lt k hk) hn
    have f1 := h.row.block (e1 b.s m1.1 m2.1)
    have f2 := h.step.block (e1 b.t m1.2.1 m2.2.1)
    have f3 := h.group.block (e1 b.g m1.2.2 m2.2.2)
    have f4 : (R.2 != 0) = false → q' = s.q + 2 := fun hh => hq' (by simpa using hh)
    clear hO hse hsm ho' e1 hc hq
    exact ⟨f1, ⟨q', hj', f4⟩, hd, f2, f3, h.nd, hcok⟩
theorem ssync_bad {s : Sto} (ho : s.over = false) (he : ¬ ssyncE s = 0) : ssync s = smid s := by
  have hnn : ¬ s.over = true := by rw [ho]; simp
  unfold ssyncE at he
  rw [if_neg hnn] at he
  unfold ssync smid
  rw [if_neg hnn]
  by_cases hz : cntO s.group = 0
  · rw [if_pos hz] at he; exact absurd rfl he
  · rw [if_neg hz] at he
    rw [if_neg hz, if_neg hz, if_neg he]
theorem ssync_good {s : Sto} (h : s.Ok) (ho : s.over = false) (he : ssyncE s = 0) : ssync s = { smid s with group := noPgs (smid s).dk.last.length } := by
  have hnn : ¬ s.over = true := by rw [ho]; simp
  unfold ssyncE at he
  rw [if_neg hnn] at he
  unfold ssync smid
  rw [if_neg hnn]
  by_cases hz : cntO s.group = 0
  · rw [if_pos hz, if_pos hz]
    have := cntO_zero hz
    rw [h.glen] at this
    rw [← this]
  · rw [if_neg hz] at he
    rw [if_neg hz, if_neg hz, if_pos he]
    have : (scommit s).dk.last.length = s.dk.last.length := srun_len s
    rw [this]
theorem ssync_any {w : World} {b : Blk} {s : Sto} (h : StoreAt w b s) (hq0 : 0 ≤ s.q) (hq1 : s.q < 4294967290) : Calls Tryz.prog 121 #[.pointer (some ⟨b.s, 0, none⟩)] w fun e w' =>
    e = .returned (.int .i64 (ssyncE s)) ∧ StoreAt w' b (ssync s) ∧ Only [b.j, b.d, b.l, b.m, b.g] w w' := by
  have HS := Lib.hid h
  have HV := Lib.hid (sover_any h)
  cases ho : s.over with
  | true =>
    have HE : Hid (ssyncE s = 5) := Lib.hid (by unfold ssyncE; rw [if_pos ho])
    have HF : Hid (ssync s = s) := Lib.hid (by unfold ssync; rw [if_pos ho])
    rw [HE.out, HF.out]
    rw [ho] at HV
    clear h ho HE HF
    go_enter Tryz.func121, Tryz.ntmps121
    go_wp2_with (go_at_call 71; refine HV.out.mono ?_; rintro e w' ⟨rfl, rfl⟩)
    go_ret
    exact ⟨rfl, HS.out, Only.refl _ _⟩
  | false =>
    rw [ho] at HV
    have HCM := Lib.hid (fun (W : World) (A : Option Addr) (c : Nat) (hW : StoreAt W b s) (hc : ChAt W A b.all (chgs s.group)) => scommit_call hW ho hq0 hq1 A c hc)
    have HBAD := Lib.hid (fun (he : ¬ ssyncE s = 0) => ssync_bad ho he)
    have HGOOD := Lib.hid (fun (he : ssyncE s = 0) => ssync_good h.ok ho he)
    clear h ho hq0 hq1
    go_enter Tryz.func121, Tryz.ntmps121
    go_wp2_with (go_at_call 71; refine HV.out.mono ?_; rintro e w' ⟨rfl, rfl⟩)
    refine wp_region_noPanic ?_
    refine wp_region_held_drew (S := fun W => W.cell? ⟨b.s, 0, none⟩ = some (.pointer (some ⟨b.j, 0, none⟩))) (by kernel_rfl) (HS.out.drew.c0) (fun hHeld => ?_)
    have HB1 : Hid (Below w.heap.size w w.drew) := Lib.hid (Below.refl _ _).drew
    have HS1 := Lib.hid HS.out.drew
    generalize w.drew = w1 at HB1 HS1 hHeld ⊢
    refine take_at (i := 0) (d := some 6) (v := .pointer (some ⟨b.s, 0, none⟩)) rfl rfl (by kernel_rfl) (by kernel_rfl) (by kernel_rfl) (fun _ _ _ h => h) (Or.inl ⟨by kernel_rfl, ?_⟩) hHeld ?_
    · intro w hSw; have c0 : w.cell? ⟨b.s, 0, none⟩ = some (.pointer (some ⟨b.j, 0, none⟩)) := hSw; go_simp
    (try simp only [Act.put, puA, puB, puC])
    refine take_at (i := 1) (d := some 7) (v := .pointer (some ⟨b.s, 0, none⟩)) rfl rfl (by kernel_rfl) (by kernel_rfl) (by kernel_rfl) (fun _ _ _ h => h) (Or.inl ⟨by kernel_rfl, ?_⟩) hHeld ?_
    · intro w hSw; have c0 : w.cell? ⟨b.s, 0, none⟩ = some (.pointer (some ⟨b.j, 0, none⟩)) := hSw; go_simp
    (try simp only [Act.put, puA, puB, puC])
    refine take_at (i := 2) (d := some 8) (v := .pointer (some ⟨b.s, 0, none⟩)) rfl rfl (by kernel_rfl) (by kernel_rfl) (by kernel_rfl) (fun _ _ _ h => h) (Or.inl ⟨by kernel_rfl, ?_⟩) hHeld ?_
    · intro w hSw; have c0 : w.cell? ⟨b.s, 0, none⟩ = some (.pointer (some ⟨b.j, 0, none⟩)) := hSw; go_simp
    (try simp only [Act.put, puA, puB, puC])
    refine take_at (i := 3) (d := some 9) (v := .pointer (some ⟨b.j, 0, none⟩)) rfl rfl (by kernel_rfl) (by kernel_rfl) (by kernel_rfl) (fun _ _ _ h => h) (Or.inl ⟨by kernel_rfl, ?_⟩) hHeld ?_
    · intro w hSw; have c0 : w.cell? ⟨b.s, 0, none⟩ = some (.pointer (some ⟨b.j, 0, none⟩)) := hSw; go_simp
    (try simp only [Act.put, puA, puB, puC])
    refine take_at (i := 4) (d := some 10) (v := .pointer (some ⟨b.s, 0, none⟩)) rfl rfl (by kernel_rfl) (by kernel_rfl) (by kernel_rfl) (fun _ _ _ h => h) (Or.inl ⟨by kernel_rfl, ?_⟩) hHeld ?_
    · intro w hSw; have c0 : w.cell? ⟨b.s, 0, none⟩ = some (.pointer (some ⟨b.j, 0, none⟩)) := hSw; go_simp
    (try simp only [Act.put, puA, puB, puC])
    refine wpAnyH_ready (rs := [5]) (by kernel_rfl) (by simp) ?_
    refine AllReadyH.cons rfl (fun K hK => ?_) AllReadyH.nil
    go_simp
    (go_at_call 157; refine (schgs_any HS1.out).mono ?_; rintro e w2 ⟨A, c, rfl, hC2, hB2⟩; have HS2 := Lib.hid (HS1.out.below hB2); have HC2 := Lib.hid hC2; have HB2 := Lib.hid hB2; clear hC2 hB2)
    (try go_wp2_with fail)
    refine hK.out _ _ HS2.out.c0 (fun hHeld => ?_)
    clear hK K
    (try simp only [Act.put, puA, puB, puC])
    refine wpAnyH_ready (rs := [6]) (by kernel_rfl) (by simp) ?_
    refine AllReadyH.cons rfl (fun K hK => ?_) AllReadyH.nil
    go_simp
    (go_at_call 156; refine (HCM.out w2 A c HS2.out HC2.out).mono ?_; rintro e w3 ⟨E, rfl, hE, hS3, hO3⟩; have HS3 := Lib.hid hS3; have HO3 := Lib.hid hO3; have HE := Lib.hid hE; clear hS3 hO3 hE)
    (try go_wp2_with fail)
    refine hK.out _ _ HS3.out.c0 (fun hHeld => ?_)
    clear hK K
    (try simp only [Act.put, puA, puB, puC])
    refine take_at (i := 7) (d := some 3) (v := .int .i64 E) rfl rfl (by kernel_rfl) (by kernel_rfl) (by kernel_rfl) (fun _ _ _ h => h) (Or.inl ⟨by kernel_rfl, ?_⟩) hHeld ?_
    · intro w hSw; have c0 : w.cell? ⟨b.s, 0, none⟩ = some (.pointer (some ⟨b.j, 0, none⟩)) := hSw; go_simp
    (try simp only [Act.put, puA, puB, puC])
    refine wpAnyH_done (by kernel_rfl) ?_ _
    refine NoPanic.normal ?_
    have HOO : Hid (Only [b.j, b.d, b.l, b.m, b.g] w w3) := Lib.hid ((Only.below (HB1.out.trans (HB2.out.mono HB1.out.size))).trans (HO3.out.mono (by simp)))
    clear HS HV HCM HB1 HS1 HB2 HS2 HC2 HO3
    by_cases hE0 : E = 0
    · subst hE0
      have HG := Lib.hid (HGOOD.out HE.out.symm)
      have c5 := HS3.out.c5
      obtain ⟨w4, hcl0, hmp, htn⟩ := HS3.out.group.clear (smid s).dk.last.length 0
      have hcl : ∀ ty, (Builtin.clear_ #[91] ty #[.map (some b.g)]).run Tryz.prog w3 = .ok (.tuple #[]) w4 := fun ty => hcl0
      have HM := Lib.hid hmp
      have HT := Lib.hid htn
      clear hcl0 hmp htn HBAD HGOOD
      go_wp2_with fail
      go_ret
      have ho : Only [b.g] w3 w4 := Only.grown HT.out.grown (by simp)
      refine ⟨by rw [← HE.out]; rfl, ?_, HOO.out.trans (ho.mono (by simp))⟩
      rw [HG.out]
      exact HS3.out.setGroup ho HM.out (sclear_ok HS3.out.ok rfl)
    · have HG := Lib.hid (HBAD.out (by rw [← HE.out]; exact hE0))
      have hne2 : (E == 0) = false := by simpa using hE0
      have hne3 : (E != 0) = true := by simpa using hE0
      clear hE0 HBAD HGOOD
      go_wp2_with fail
      go_ret
      exact ⟨by rw [← HE.out]; rfl, by rw [HG.out]; exact HS3.out, HOO.out⟩
end

section
open Go.RowKit Go.Maps
open Dk (zeros zeros_length)
open Jn (Chg)
theorem sgrp_ok {s : Sto} (h : s.Ok) (hc : stog s ≤ s.r) : Sto.Ok { s with group := joinP s.group s.step } :=
  ⟨h.slen, by show (joinP _ _).length = _; rw [joinP_length]; exact h.glen, h.spg, pagesOk_join h.gpg h.spg, h.scnt, hc, h.a9, h.z9, h.reg, h.room, h.r1, h.r32, h.rz⟩
theorem copy_store {w : World} {b : Blk} {s : Sto} (h : StoreAt w b s) (hc : stog s ≤ s.r) : Calls Tryz.prog 122 #[.map (some b.g), .map (some b.t)] w fun e w' =>
    e = .returned (.tuple #[]) ∧ StoreAt w' b { s with group := joinP s.group s.step } ∧ Only [b.g] w w' := by
  have ne := Blk.ne h.nd
  refine (copy_any h.group h.step (by omega) (by rw [h.ok.slen, h.ok.glen]) (by rw [h.ok.glen]; have := h.disk.ok.small; omega)).mono ?_
  rintro e w' ⟨rfl, hm, ho⟩
  exact ⟨rfl, h.setGroup ho hm (sgrp_ok h.ok hc), ho⟩
theorem stog_le {s : Sto} (h : s.Ok) (hn : s.dk.last.length ≤ 512) : stog s ≤ 512 := by
  unfold stog
  refine Nat.le_trans (cntO_le _) ?_
  rw [joinP_length, h.glen]; exact hn
theorem skeep_any {w : World} {b : Blk} {s : Sto} (h : StoreAt w b s) (hq0 : 0 ≤ s.q) (hq1 : s.q < 4294967290) : Calls Tryz.prog 78 #[.pointer (some ⟨b.s, 0, none⟩)] w fun e w' =>
    e = .returned (.int .i64 (skeepE s)) ∧ StoreAt w' b (skeep s) ∧ Only [b.j, b.d, b.l, b.m, b.g, b.t] w w' := by
  have HS := Lib.hid h
  have HV := Lib.hid (sover_any h)
  have HOK0 := Lib.hid h.ok
  cases ho : s.over with
  | true =>
    have HE : Hid (skeepE s = 5) := Lib.hid (by unfold skeepE; rw [if_pos ho])
    have HF : Hid (skeep s = s) := Lib.hid (by unfold skeep; rw [if_pos ho])
    rw [HE.out, HF.out]
    rw [ho] at HV
    clear h ho HE HF
    go_enter Tryz.func78, Tryz.ntmps78
    go_wp2_with (go_at_call 71; refine HV.out.mono ?_; rintro e w' ⟨rfl, rfl⟩)
    go_ret
    exact ⟨rfl, HS.out, Only.refl _ _⟩
  | false =>
    rw [ho] at HV
    have hnn : ¬ s.over = true := by rw [ho]; simp
    have HTG := Lib.hid (fun (W : World) (hW : StoreAt W b s) => stog_any hW)
    have HRM := Lib.hid (fun (W : World) (hW : StoreAt W b s) => show Calls Tryz.prog 119 #[.pointer (some ⟨b.j, 0, none⟩)] W fun e w' => e = .returned (.int .i64 (s.r : Int)) ∧ W = w' from by
      obtain ⟨q', hj', _⟩ := hW.ja
      exact mroom_any hj' hW.ok.room)
    have HSY := Lib.hid (fun (W : World) (hW : StoreAt W b s) => ssync_any hW hq0 hq1)
    have hT5 := stog_le h.ok h.disk.ok.small
    have hR5 := h.ok.r32
    by_cases hr : s.r < stog s
    · by_cases he : ssyncE s = 0
      · have HE : Hid (skeepE s = 0) := Lib.hid (by unfold skeepE; rw [if_neg hnn, if_pos hr, he])
        have HF : Hid (skeep s = sjoin (ssync s)) := Lib.hid (by unfold skeep; rw [if_neg hnn, if_pos hr, if_pos he])
        have HJK := Lib.hid (sjoin_sync h.ok he)
        have HOK := Lib.hid (ssync_ok h.ok)
        rw [he] at HSY
        rw [HE.out, HF.out]
        clear HE HF h ho hnn he hq0 hq1 HOK0
        have hr' : (s.r : Int) < (stog s : Int) := by omega
        generalize stog s = T at HTG hT5 hr hr'
        generalize s.r = rr at HRM hR5 hr hr'
        generalize ssync s = s1 at HSY HJK HOK ⊢
        go_enter Tryz.func78, Tryz.ntmps78
        go_wp2_with (go_at_call 71; refine HV.out.mono ?_; rintro e w' ⟨rfl, rfl⟩)
        refine wp_region_noPanic ?_
        refine wp_region_held_drew (S := fun W => StoreAt W b s) (by kernel_rfl) HS.out.drew (fun hHeld => ?_)
        have HB1 : Hid (Below w.heap.size w w.drew) := Lib.hid (Below.refl _ _).drew
        have HS1 := Lib.hid HS.out.drew
        generalize w.drew = w1 at HB1 HS1 hHeld ⊢
        refine take_at (i := 0) (d := some 6) (v := .pointer (some ⟨b.s, 0, none⟩)) rfl rfl (by kernel_rfl) (by kernel_rfl) (by kernel_rfl) (fun _ _ _ h => h) (Or.inl ⟨by kernel_rfl, ?_⟩) hHeld ?_
        · intro w hSw; have c0 := StoreAt.c0 hSw; go_simp
        (try simp only [Act.put, puA, puB, puC])
        refine take_at (i := 2) (d := some 8) (v := .pointer (some ⟨b.s, 0, none⟩)) rfl rfl (by kernel_rfl) (by kernel_rfl) (by kernel_rfl) (fun _ _ _ h => h) (Or.inl ⟨by kernel_rfl, ?_⟩) hHeld ?_
        · intro w hSw; have c0 := StoreAt.c0 hSw; go_simp
        (try simp only [Act.put, puA, puB, puC])
        refine take_at (i := 3) (d := some 9) (v := .pointer (some ⟨b.s, 0, none⟩)) rfl rfl (by kernel_rfl) (by kernel_rfl) (by kernel_rfl) (fun _ _ _ h => h) (Or.inl ⟨by kernel_rfl, ?_⟩) hHeld ?_
        · intro w hSw; have c0 := StoreAt.c0 hSw; go_simp
        (try simp only [Act.put, puA, puB, puC])
        refine take_at (i := 4) (d := some 10) (v := .pointer (some ⟨b.s, 0, none⟩)) rfl rfl (by kernel_rfl) (by kernel_rfl) (by kernel_rfl) (fun _ _ _ h => h) (Or.inl ⟨by kernel_rfl, ?_⟩) hHeld ?_
        · intro w hSw; have c0 := StoreAt.c0 hSw; go_simp
        (try simp only [Act.put, puA, puB, puC])
        refine take_at (i := 5) (d := some 11) (v := .pointer (some ⟨b.j, 0, none⟩)) rfl rfl (by kernel_rfl) (by kernel_rfl) (by kernel_rfl) (fun _ _ _ h => h) (Or.inl ⟨by kernel_rfl, ?_⟩) hHeld ?_
        · intro w hSw; have c0 := StoreAt.c0 hSw; go_simp
        (try simp only [Act.put, puA, puB, puC])
        refine wpAnyH_ready (rs := [1]) (by kernel_rfl) (by simp) ?_
        refine AllReadyH.cons rfl (fun K hK => ?_) AllReadyH.nil
        go_simp
        (go_at_call 120; refine (HTG.out w1 HS1.out).mono ?_; rintro e w2 ⟨rfl, hB2⟩; have HS2 := Lib.hid (HS1.out.below hB2); have HB2 := Lib.hid (HB1.out.trans (hB2.mono HB1.out.size)); clear hB2 HS1 HB1)
        (try go_wp2_with fail)
        refine hK.out _ _ HS2.out (fun hHeld => ?_)
        clear hK K
        (try simp only [Act.put, puA, puB, puC])
        refine wpAnyH_ready (rs := [6]) (by kernel_rfl) (by simp) ?_
        refine AllReadyH.cons rfl (fun K hK => ?_) AllReadyH.nil
        go_simp
        (go_at_call 119; refine (HRM.out w2 HS2.out).mono ?_; rintro e w3 ⟨rfl, hw3⟩; subst hw3)
        (try go_wp2_with fail)
        refine hK.out _ _ HS2.out (fun hHeld => ?_)
        clear hK K
        (try simp only [Act.put, puA, puB, puC])
        refine take_at (i := 7) (d := some 13) (v := .bool true) rfl rfl (by kernel_rfl) (by kernel_rfl) (by kernel_rfl) (fun _ _ _ h => h) (Or.inl ⟨by kernel_rfl, ?_⟩) hHeld ?_
        · intro w hSw; have c0 := StoreAt.c0 hSw; go_simp
        (try simp only [Act.put, puA, puB, puC])
        refine wpAnyH_done (by kernel_rfl) ?_ _
        refine NoPanic.normal ?_
        clear HTG HRM HV HS
        go_wp2_with fail
        refine (HSY.out w2 HS2.out).mono ?_
        rintro e w4 ⟨rfl, hS4, hO4⟩
        have HS4 := Lib.hid hS4
        have HOO : Hid (Only [b.j, b.d, b.l, b.m, b.g, b.t] w w4) := Lib.hid ((Only.below HB2.out).trans (hO4.mono (by simp)))
        clear hS4 hO4 HSY HS2 HB2
        go_wp2_with fail
        refine wp_region_noPanic ?_
        refine wp_region_held_drew (S := fun W => W.cell? ⟨b.s, 4, none⟩ = some (.map (some b.t)) ∧ W.cell? ⟨b.s, 5, none⟩ = some (.map (some b.g))) (by kernel_rfl) ⟨HS4.out.drew.c4, HS4.out.drew.c5⟩ (fun hHeld => ?_)
        have HO5 : Hid (Only [b.j, b.d, b.l, b.m, b.g, b.t] w w4.drew) := Lib.hid (HOO.out.drew)
        have HS5 := Lib.hid HS4.out.drew
        clear HOO
        generalize w4.drew = w5 at HO5 HS5 hHeld ⊢
        refine take_at (i := 0) (d := some 19) (v := .pointer (some ⟨b.s, 0, none⟩)) rfl rfl (by kernel_rfl) (by kernel_rfl) (by kernel_rfl) (fun _ _ _ h => h) (Or.inl ⟨by kernel_rfl, ?_⟩) hHeld ?_
        · intro w hSw; have c4 := hSw.1; have c5 := hSw.2; go_simp
        (try simp only [Act.put, puA, puB, puC])
        refine take_at (i := 1) (d := some 20) (v := .pointer (some ⟨b.s, 0, none⟩)) rfl rfl (by kernel_rfl) (by kernel_rfl) (by kernel_rfl) (fun _ _ _ h => h) (Or.inl ⟨by kernel_rfl, ?_⟩) hHeld ?_
        · intro w hSw; have c4 := hSw.1; have c5 := hSw.2; go_simp
        (try simp only [Act.put, puA, puB, puC])
        refine take_at (i := 2) (d := some 21) (v := .pointer (some ⟨b.s, 5, none⟩)) rfl rfl (by kernel_rfl) (by kernel_rfl) (by kernel_rfl) (fun _ _ _ h => h) (Or.inl ⟨by kernel_rfl, ?_⟩) hHeld ?_
        · intro w hSw; have c4 := hSw.1; have c5 := hSw.2; go_simp
        (try simp only [Act.put, puA, puB, puC])
        refine take_at (i := 3) (d := some 22) (v := .map (some b.g)) rfl rfl (by kernel_rfl) (by kernel_rfl) (by kernel_rfl) (fun _ _ _ h => h) (Or.inl ⟨by kernel_rfl, ?_⟩) hHeld ?_
        · intro w hSw; have c4 := hSw.1; have c5 := hSw.2; go_simp
        (try simp only [Act.put, puA, puB, puC])
        refine take_at (i := 4) (d := some 23) (v := .pointer (some ⟨b.s, 0, none⟩)) rfl rfl (by kernel_rfl) (by kernel_rfl) (by kernel_rfl) (fun _ _ _ h => h) (Or.inl ⟨by kernel_rfl, ?_⟩) hHeld ?_
        · intro w hSw; have c4 := hSw.1; have c5 := hSw.2; go_simp
        (try simp only [Act.put, puA, puB, puC])
        refine take_at (i := 5) (d := some 24) (v := .pointer (some ⟨b.s, 0, none⟩)) rfl rfl (by kernel_rfl) (by kernel_rfl) (by kernel_rfl) (fun _ _ _ h => h) (Or.inl ⟨by kernel_rfl, ?_⟩) hHeld ?_
        · intro w hSw; have c4 := hSw.1; have c5 := hSw.2; go_simp
        (try simp only [Act.put, puA, puB, puC])
        refine take_at (i := 6) (d := some 25) (v := .pointer (some ⟨b.s, 4, none⟩)) rfl rfl (by kernel_rfl) (by kernel_rfl) (by kernel_rfl) (fun _ _ _ h => h) (Or.inl ⟨by kernel_rfl, ?_⟩) hHeld ?_
        · intro w hSw; have c4 := hSw.1; have c5 := hSw.2; go_simp
        (try simp only [Act.put, puA, puB, puC])
        refine take_at (i := 7) (d := some 26) (v := .map (some b.t)) rfl rfl (by kernel_rfl) (by kernel_rfl) (by kernel_rfl) (fun _ _ _ h => h) (Or.inl ⟨by kernel_rfl, ?_⟩) hHeld ?_
        · intro w hSw; have c4 := hSw.1; have c5 := hSw.2; go_simp
        (try simp only [Act.put, puA, puB, puC])
        refine wpAnyH_ready (rs := [8]) (by kernel_rfl) (by simp) ?_
        refine AllReadyH.cons rfl (fun K hK => ?_) AllReadyH.nil
        go_simp
        (go_at_call 122; refine (copy_store HS5.out HJK.out).mono ?_; rintro e w6 ⟨rfl, hS6, hO6⟩; have HS6 := Lib.hid hS6; have HO6 := Lib.hid (HO5.out.trans (hO6.mono (by simp))); clear hS6 hO6 HS5 HO5)
        (try go_wp2_with fail)
        refine hK.out _ _ ⟨HS6.out.c4, HS6.out.c5⟩ (fun hHeld => ?_)
        clear hK K
        (try simp only [Act.put, puA, puB, puC])
        refine wpAnyH_done (by kernel_rfl) ?_ _
        refine NoPanic.normal ?_
        have c4 := HS6.out.c4
        obtain ⟨w7, hcl0, hmp, htn⟩ := HS6.out.step.clear (s1).dk.last.length 0
        have hcl : ∀ ty, (Builtin.clear_ #[91] ty #[.map (some b.t)]).run Tryz.prog w6 = .ok (.tuple #[]) w7 := fun ty => hcl0
        have HM := Lib.hid hmp
        have HT := Lib.hid htn
        clear hcl0 hmp htn
        go_wp2_with fail
        go_ret
        have ho : Only [b.t] w6 w7 := Only.grown HT.out.grown (by simp)
        refine ⟨rfl, ?_, HO6.out.trans (ho.mono (by simp))⟩
        unfold sjoin
        exact HS6.out.setStep ho HM.out (sjoin_ok HOK.out HJK.out)
      · have HE : Hid (skeepE s = ssyncE s) := Lib.hid (by unfold skeepE; rw [if_neg hnn, if_pos hr])
        have HF : Hid (skeep s = ssync s) := Lib.hid (by unfold skeep; rw [if_neg hnn, if_pos hr, if_neg he])
        rw [HE.out, HF.out]
        have hne2 : (ssyncE s == 0) = false := by simpa using he
        have hne3 : (ssyncE s != 0) = true := by simpa using he
        clear HE HF h ho hnn he hq0 hq1 HOK0
        have hr' : (s.r : Int) < (stog s : Int) := by omega
        generalize stog s = T at HTG hT5 hr hr'
        generalize s.r = rr at HRM hR5 hr hr'
        generalize ssync s = s1 at HSY ⊢
        generalize ssyncE s = E at HSY hne2 hne3 ⊢
        go_enter Tryz.func78, Tryz.ntmps78
        go_wp2_with (go_at_call 71; refine HV.out.mono ?_; rintro e w' ⟨rfl, rfl⟩)
        refine wp_region_noPanic ?_
        refine wp_region_held_drew (S := fun W => StoreAt W b s) (by kernel_rfl) HS.out.drew (fun hHeld => ?_)
        have HB1 : Hid (Below w.heap.size w w.drew) := Lib.hid (Below.refl _ _).drew
        have HS1 := Lib.hid HS.out.drew
        generalize w.drew = w1 at HB1 HS1 hHeld ⊢
        refine take_at (i := 0) (d := some 6) (v := .pointer (some ⟨b.s, 0, none⟩)) rfl rfl (by kernel_rfl) (by kernel_rfl) (by kernel_rfl) (fun _ _ _ h => h) (Or.inl ⟨by kernel_rfl, ?_⟩) hHeld ?_
        · intro w hSw; have c0 := StoreAt.c0 hSw; go_simp
        (try simp only [Act.put, puA, puB, puC])
        refine take_at (i := 2) (d := some 8) (v := .pointer (some ⟨b.s, 0, none⟩)) rfl rfl (by kernel_rfl) (by kernel_rfl) (by kernel_rfl) (fun _ _ _ h => h) (Or.inl ⟨by kernel_rfl, ?_⟩) hHeld ?_
        · intro w hSw; have c0 := StoreAt.c0 hSw; go_simp
        (try simp only [Act.put, puA, puB, puC])
        refine take_at (i := 3) (d := some 9) (v := .pointer (some ⟨b.s, 0, none⟩)) rfl rfl (by kernel_rfl) (by kernel_rfl) (by kernel_rfl) (fun _ _ _ h => h) (Or.inl ⟨by kernel_rfl, ?_⟩) hHeld ?_
        · intro w hSw; have c0 := StoreAt.c0 hSw; go_simp
        (try simp only [Act.put, puA, puB, puC])
        refine take_at (i := 4) (d := some 10) (v := .pointer (some ⟨b.s, 0, none⟩)) rfl rfl (by kernel_rfl) (by kernel_rfl) (by kernel_rfl) (fun _ _ _ h => h) (Or.inl ⟨by kernel_rfl, ?_⟩) hHeld ?_
        · intro w hSw; have c0 := StoreAt.c0 hSw; go_simp
        (try simp only [Act.put, puA, puB, puC])
        refine take_at (i := 5) (d := some 11) (v := .pointer (some ⟨b.j, 0, none⟩)) rfl rfl (by kernel_rfl) (by kernel_rfl) (by kernel_rfl) (fun _ _ _ h => h) (Or.inl ⟨by kernel_rfl, ?_⟩) hHeld ?_
        · intro w hSw; have c0 := StoreAt.c0 hSw; go_simp
        (try simp only [Act.put, puA, puB, puC])
        refine wpAnyH_ready (rs := [1]) (by kernel_rfl) (by simp) ?_
        refine AllReadyH.cons rfl (fun K hK => ?_) AllReadyH.nil
        go_simp
        (go_at_call 120; refine (HTG.out w1 HS1.out).mono ?_; rintro e w2 ⟨rfl, hB2⟩; have HS2 := Lib.hid (HS1.out.below hB2); have HB2 := Lib.hid (HB1.out.trans (hB2.mono HB1.out.size)); clear hB2 HS1 HB1)
        (try go_wp2_with fail)
        refine hK.out _ _ HS2.out (fun hHeld => ?_)
        clear hK K
        (try simp only [Act.put, puA, puB, puC])
        refine wpAnyH_ready (rs := [6]) (by kernel_rfl) (by simp) ?_
        refine AllReadyH.cons rfl (fun K hK => ?_) AllReadyH.nil
        go_simp
        (go_at_call 119; refine (HRM.out w2 HS2.out).mono ?_; rintro e w3 ⟨rfl, hw3⟩; subst hw3)
        (try go_wp2_with fail)
        refine hK.out _ _ HS2.out (fun hHeld => ?_)
        clear hK K
        (try simp only [Act.put, puA, puB, puC])
        refine take_at (i := 7) (d := some 13) (v := .bool true) rfl rfl (by kernel_rfl) (by kernel_rfl) (by kernel_rfl) (fun _ _ _ h => h) (Or.inl ⟨by kernel_rfl, ?_⟩) hHeld ?_
        · intro w hSw; have c0 := StoreAt.c0 hSw; go_simp
        (try simp only [Act.put, puA, puB, puC])
        refine wpAnyH_done (by kernel_rfl) ?_ _
        refine NoPanic.normal ?_
        clear HTG HRM HV HS
        go_wp2_with fail
        refine (HSY.out w2 HS2.out).mono ?_
        rintro e w4 ⟨rfl, hS4, hO4⟩
        have HS4 := Lib.hid hS4
        have HOO : Hid (Only [b.j, b.d, b.l, b.m, b.g, b.t] w w4) := Lib.hid ((Only.below HB2.out).trans (hO4.mono (by simp)))
        clear hS4 hO4 HSY HS2 HB2
        go_wp2_with fail
        go_ret
        exact ⟨rfl, HS4.out, HOO.out⟩
    · have HE : Hid (skeepE s = 0) := Lib.hid (by unfold skeepE; rw [if_neg hnn, if_neg hr])
      have HF : Hid (skeep s = sjoin s) := Lib.hid (by unfold skeep; rw [if_neg hnn, if_neg hr])
      have HJK : Hid (stog s ≤ s.r) := Lib.hid (by omega)
      have HOK := Lib.hid h.ok
      rw [HE.out, HF.out]
      clear HE HF h ho hnn hq0 hq1 HOK0
      have hr' : ¬ ((s.r : Int) < (stog s : Int)) := by omega
      have hr2 : decide ((s.r : Int) < (stog s : Int)) = false := decide_eq_false hr'
      generalize hTT : stog s = T at HTG hT5 hr hr' hr2
      generalize hRR : s.r = rr at HRM hR5 hr hr' hr2
      clear hTT hRR
      go_enter Tryz.func78, Tryz.ntmps78
      go_wp2_with (go_at_call 71; refine HV.out.mono ?_; rintro e w' ⟨rfl, rfl⟩)
      refine wp_region_noPanic ?_
      refine wp_region_held_drew (S := fun W => StoreAt W b s) (by kernel_rfl) HS.out.drew (fun hHeld => ?_)
      have HB1 : Hid (Below w.heap.size w w.drew) := Lib.hid (Below.refl _ _).drew
      have HS1 := Lib.hid HS.out.drew
      generalize w.drew = w1 at HB1 HS1 hHeld ⊢
      refine take_at (i := 0) (d := some 6) (v := .pointer (some ⟨b.s, 0, none⟩)) rfl rfl (by kernel_rfl) (by kernel_rfl) (by kernel_rfl) (fun _ _ _ h => h) (Or.inl ⟨by kernel_rfl, ?_⟩) hHeld ?_
      · intro w hSw; have c0 := StoreAt.c0 hSw; go_simp
      (try simp only [Act.put, puA, puB, puC])
      refine take_at (i := 2) (d := some 8) (v := .pointer (some ⟨b.s, 0, none⟩)) rfl rfl (by kernel_rfl) (by kernel_rfl) (by kernel_rfl) (fun _ _ _ h => h) (Or.inl ⟨by kernel_rfl, ?_⟩) hHeld ?_
      · intro w hSw; have c0 := StoreAt.c0 hSw; go_simp
      (try simp only [Act.put, puA, puB, puC])
      refine take_at (i := 3) (d := some 9) (v := .pointer (some ⟨b.s, 0, none⟩)) rfl rfl (by kernel_rfl) (by kernel_rfl) (by kernel_rfl) (fun _ _ _ h => h) (Or.inl ⟨by kernel_rfl, ?_⟩) hHeld ?_
      · intro w hSw; have c0 := StoreAt.c0 hSw; go_simp
      (try simp only [Act.put, puA, puB, puC])
      refine take_at (i := 4) (d := some 10) (v := .pointer (some ⟨b.s, 0, none⟩)) rfl rfl (by kernel_rfl) (by kernel_rfl) (by kernel_rfl) (fun _ _ _ h => h) (Or.inl ⟨by kernel_rfl, ?_⟩) hHeld ?_
      · intro w hSw; have c0 := StoreAt.c0 hSw; go_simp
      (try simp only [Act.put, puA, puB, puC])
      refine take_at (i := 5) (d := some 11) (v := .pointer (some ⟨b.j, 0, none⟩)) rfl rfl (by kernel_rfl) (by kernel_rfl) (by kernel_rfl) (fun _ _ _ h => h) (Or.inl ⟨by kernel_rfl, ?_⟩) hHeld ?_
      · intro w hSw; have c0 := StoreAt.c0 hSw; go_simp
      (try simp only [Act.put, puA, puB, puC])
      refine wpAnyH_ready (rs := [1]) (by kernel_rfl) (by simp) ?_
      refine AllReadyH.cons rfl (fun K hK => ?_) AllReadyH.nil
      go_simp
      (go_at_call 120; refine (HTG.out w1 HS1.out).mono ?_; rintro e w2 ⟨rfl, hB2⟩; have HS2 := Lib.hid (HS1.out.below hB2); have HB2 := Lib.hid (HB1.out.trans (hB2.mono HB1.out.size)); clear hB2 HS1 HB1)
      (try go_wp2_with fail)
      refine hK.out _ _ HS2.out (fun hHeld => ?_)
      clear hK K
      (try simp only [Act.put, puA, puB, puC])
      refine wpAnyH_ready (rs := [6]) (by kernel_rfl) (by simp) ?_
      refine AllReadyH.cons rfl (fun K hK => ?_) AllReadyH.nil
      go_simp
      (go_at_call 119; refine (HRM.out w2 HS2.out).mono ?_; rintro e w3 ⟨rfl, hw3⟩; subst hw3)
      (try go_wp2_with fail)
      refine hK.out _ _ HS2.out (fun hHeld => ?_)
      clear hK K
      (try simp only [Act.put, puA, puB, puC])
      refine take_at (i := 7) (d := some 13) (v := .bool false) rfl rfl (by kernel_rfl) (by kernel_rfl) (by kernel_rfl) (fun _ _ _ h => h) (Or.inl ⟨by kernel_rfl, ?_⟩) hHeld ?_
      · intro w hSw; have c0 := StoreAt.c0 hSw; go_simp
      (try simp only [Act.put, puA, puB, puC])
      refine wpAnyH_done (by kernel_rfl) ?_ _
      refine NoPanic.normal ?_
      have HOO : Hid (Only [b.j, b.d, b.l, b.m, b.g, b.t] w w2) := Lib.hid (Only.below HB2.out)
      clear HTG HRM HV HS HSY HB2
      go_wp2_with fail
      refine wp_region_noPanic ?_
      refine wp_region_held_drew (S := fun W => W.cell? ⟨b.s, 4, none⟩ = some (.map (some b.t)) ∧ W.cell? ⟨b.s, 5, none⟩ = some (.map (some b.g))) (by kernel_rfl) ⟨HS2.out.drew.c4, HS2.out.drew.c5⟩ (fun hHeld => ?_)
      have HO5 : Hid (Only [b.j, b.d, b.l, b.m, b.g, b.t] w w2.drew) := Lib.hid (HOO.out.drew)
      have HS5 := Lib.hid HS2.out.drew
      clear HOO
      generalize w2.drew = w5 at HO5 HS5 hHeld ⊢
      refine take_at (i := 0) (d := some 19) (v := .pointer (some ⟨b.s, 0, none⟩)) rfl rfl (by kernel_rfl) (by kernel_rfl) (by kernel_rfl) (fun _ _ _ h => h) (Or.inl ⟨by kernel_rfl, ?_⟩) hHeld ?_
      · intro w hSw; have c4 := hSw.1; have c5 := hSw.2; go_simp
      (try simp only [Act.put, puA, puB, puC])
      refine take_at (i := 1) (d := some 20) (v := .pointer (some ⟨b.s, 0, none⟩)) rfl rfl (by kernel_rfl) (by kernel_rfl) (by kernel_rfl) (fun _ _ _ h => h) (Or.inl ⟨by kernel_rfl, ?_⟩) hHeld ?_
      · intro w hSw; have c4 := hSw.1; have c5 := hSw.2; go_simp
      (try simp only [Act.put, puA, puB, puC])
      refine take_at (i := 2) (d := some 21) (v := .pointer (some ⟨b.s, 5, none⟩)) rfl rfl (by kernel_rfl) (by kernel_rfl) (by kernel_rfl) (fun _ _ _ h => h) (Or.inl ⟨by kernel_rfl, ?_⟩) hHeld ?_
      · intro w hSw; have c4 := hSw.1; have c5 := hSw.2; go_simp
      (try simp only [Act.put, puA, puB, puC])
      refine take_at (i := 3) (d := some 22) (v := .map (some b.g)) rfl rfl (by kernel_rfl) (by kernel_rfl) (by kernel_rfl) (fun _ _ _ h => h) (Or.inl ⟨by kernel_rfl, ?_⟩) hHeld ?_
      · intro w hSw; have c4 := hSw.1; have c5 := hSw.2; go_simp
      (try simp only [Act.put, puA, puB, puC])
      refine take_at (i := 4) (d := some 23) (v := .pointer (some ⟨b.s, 0, none⟩)) rfl rfl (by kernel_rfl) (by kernel_rfl) (by kernel_rfl) (fun _ _ _ h => h) (Or.inl ⟨by kernel_rfl, ?_⟩) hHeld ?_
      · intro w hSw; have c4 := hSw.1; have c5 := hSw.2; go_simp
      (try simp only [Act.put, puA, puB, puC])
      refine take_at (i := 5) (d := some 24) (v := .pointer (some ⟨b.s, 0, none⟩)) rfl rfl (by kernel_rfl) (by kernel_rfl) (by kernel_rfl) (fun _ _ _ h => h) (Or.inl ⟨by kernel_rfl, ?_⟩) hHeld ?_
      · intro w hSw; have c4 := hSw.1; have c5 := hSw.2; go_simp
      (try simp only [Act.put, puA, puB, puC])
      refine take_at (i := 6) (d := some 25) (v := .pointer (some ⟨b.s, 4, none⟩)) rfl rfl (by kernel_rfl) (by kernel_rfl) (by kernel_rfl) (fun _ _ _ h => h) (Or.inl ⟨by kernel_rfl, ?_⟩) hHeld ?_
      · intro w hSw; have c4 := hSw.1; have c5 := hSw.2; go_simp
      (try simp only [Act.put, puA, puB, puC])
      refine take_at (i := 7) (d := some 26) (v := .map (some b.t)) rfl rfl (by kernel_rfl) (by kernel_rfl) (by kernel_rfl) (fun _ _ _ h => h) (Or.inl ⟨by kernel_rfl, ?_⟩) hHeld ?_
      · intro w hSw; have c4 := hSw.1; have c5 := hSw.2; go_simp
      (try simp only [Act.put, puA, puB, puC])
      refine wpAnyH_ready (rs := [8]) (by kernel_rfl) (by simp) ?_
      refine AllReadyH.cons rfl (fun K hK => ?_) AllReadyH.nil
      go_simp
      (go_at_call 122; refine (copy_store HS5.out HJK.out).mono ?_; rintro e w6 ⟨rfl, hS6, hO6⟩; have HS6 := Lib.hid hS6; have HO6 := Lib.hid (HO5.out.trans (hO6.mono (by simp))); clear hS6 hO6 HS5 HO5)
      (try go_wp2_with fail)
      refine hK.out _ _ ⟨HS6.out.c4, HS6.out.c5⟩ (fun hHeld => ?_)
      clear hK K
      (try simp only [Act.put, puA, puB, puC])
      refine wpAnyH_done (by kernel_rfl) ?_ _
      refine NoPanic.normal ?_
      have c4 := HS6.out.c4
      obtain ⟨w7, hcl0, hmp, htn⟩ := HS6.out.step.clear (s).dk.last.length 0
      have hcl : ∀ ty, (Builtin.clear_ #[91] ty #[.map (some b.t)]).run Tryz.prog w6 = .ok (.tuple #[]) w7 := fun ty => hcl0
      have HM := Lib.hid hmp
      have HT := Lib.hid htn
      clear hcl0 hmp htn
      go_wp2_with fail
      go_ret
      have ho : Only [b.t] w6 w7 := Only.grown HT.out.grown (by simp)
      refine ⟨rfl, ?_, HO6.out.trans (ho.mono (by simp))⟩
      unfold sjoin
      exact HS6.out.setStep ho HM.out (sjoin_ok HOK.out HJK.out)
end

section
open Go.RowKit Go.Maps
open Dk (zeros zeros_length)
open Hd (Head rightB pageH)
open Jn (Chg quietH liveH Cl Quiet LiveD May Same upd)
end
end Go.Proofs.YtmpfcgjjejlhdaaGreat
