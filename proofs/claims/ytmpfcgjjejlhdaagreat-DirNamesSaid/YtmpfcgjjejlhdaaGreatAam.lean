/- Texts of the proof. -/
import Derived.Test.YtmpfcgjjejlhdaaGreatAal
import Derived.Laws.EntriesVeiled
import Derived.Test.YtmpfcgjjejlhdaaGreatAab
import Derived.Test.YtmpfcgjjejlhdaaGreatAaf
import Derived.Test.YtmpfcgjjejlhdaaGreatAai
import Derived.Maps.OwnSet
import Derived.Maps.OwnOps
set_option maxRecDepth 100000
set_option maxHeartbeats 16000000
namespace Go.Proofs.YtmpfcgjjejlhdaaGreat
section
open Go.RowKit Go.Maps
open Dk (zeros zeros_length)
open Ii (Ino)
structure VolAt (w : World) (V : Nat) (b : Blk) (s : Sto) (n I k : Int) : Prop where
  row : RowAt w V (volL b.s n I k)
  store : StoreAt w b s
  nb : V ∉ b.all
section
variable {w w' : World} {V : Nat} {b : Blk} {s : Sto} {n I k : Int}
theorem VolAt.below (h : VolAt w V b s n I k) (hb : Below w.heap.size w w') : VolAt w' V b s n I k := ⟨h.row.step hb, h.store.below hb, h.nb⟩
theorem VolAt.alloc (h : VolAt w V b s n I k) (o : Obj) : VolAt (w.alloc o) V b s n I k := ⟨h.row.alloc o, h.store.alloc o, h.nb⟩
theorem VolAt.only (h : VolAt w V b s n I k) {L : List Nat} (ho : Only L w w') (hV : V ∉ L) (hL : ∀ i ∈ b.all, i ∉ L) : VolAt w' V b s n I k := ⟨h.row.block (ho.block V h.row.lt hV), h.store.only ho hL, h.nb⟩
theorem VolAt.c0 (h : VolAt w V b s n I k) : w.cell? ⟨V, 0, none⟩ = some (.pointer (some ⟨b.s, 0, none⟩)) := h.row.cell 0 _ rfl
theorem VolAt.c3 (h : VolAt w V b s n I k) : w.cell? ⟨V, 3, none⟩ = some (.int .i64 k) := h.row.cell 3 _ rfl
theorem VolAt.f3 (h : VolAt w V b s n I k) : w.frozen? ⟨V, 3, none⟩ = false := h.row.frozen 3 (show 3 < 4 by decide)
theorem VolAt.set (h : VolAt w V b s n I k) (j : Int) : VolAt (w.setCell ⟨V, 3, none⟩ (.int .i64 j)) V b s n I j :=
  ⟨RowAt.setOne h.row 3 (.int .i64 j) (show 3 < 4 by decide), h.store.only ((Only.refl [V] w).setCell (p := ⟨V, 3, none⟩) (by simp) _) (fun i hi q => by rw [List.mem_singleton] at q; subst q; exact h.nb hi), h.nb⟩
end
theorem vover_any {w : World} {V : Nat} {b : Blk} {s : Sto} {n I k : Int} (h : VolAt w V b s n I k) : Calls Tryz.prog 30 #[.pointer (some ⟨V, 0, none⟩)] w fun e w' => e = .returned (.bool s.over) ∧ w = w' := by
  have c0 := h.c0
  have HO := Lib.hid (sover_any h.store)
  clear h
  go_enter Tryz.func30, Tryz.ntmps30
  go_wp2_with (go_at_call 71; (with_reducible refine HO.out.mono ?_); rintro e w' ⟨rfl, rfl⟩)
  go_ret
  exact ⟨rfl, rfl⟩
def dropV (st : Nat) : Value := .func (.func 72) #[.pointer (some ⟨st, 0, none⟩)] #[]
theorem begin_any {w : World} {V : Nat} {b : Blk} {s : Sto} {n I : Int} (h : VolAt w V b s n I 0) : Calls Tryz.prog 31 #[.pointer (some ⟨V, 0, none⟩)] w fun e w' => e = .returned (dropV b.s) ∧ VolAt w' V b s n I 1 ∧ Only [V] w w' := by
  have hmf : ∀ (fn : Fn) (first cap : Array Value) (w : World), (Instr.makeFunc fn first cap).run Tryz.prog w = .ok (.func fn first cap) w := fun _ _ _ _ => rfl
  have H1 := h.alloc (.cells #[.pointer (some ⟨V, 0, none⟩)] 25)
  have HO := (Only.refl [V] w).alloc (.cells #[.pointer (some ⟨V, 0, none⟩)] 25)
  have r0 : RowAt (w.alloc (.cells #[.pointer (some ⟨V, 0, none⟩)] 25)) w.heap.size [.pointer (some ⟨V, 0, none⟩)] := ((Lo.start (L := []) w (by simp)).alloc _ rfl [.pointer (some ⟨V, 0, none⟩)] 25).get 0 _ rfl
  have c3 := H1.c3
  have f3 := H1.f3
  have H2 := H1.set 1
  have HO2 := HO.setCell (p := ⟨V, 3, none⟩) (by simp) (.int .i64 1)
  have c0 := H2.c0
  clear h r0
  go_enter Tryz.func31, Tryz.ntmps31
  go_wp2
  go_ret
  exact ⟨rfl, H2, HO2⟩
def keepL (b : Blk) : List Nat := [b.j, b.d, b.l, b.m, b.g, b.t]
theorem vkeep_any {w : World} {V : Nat} {b : Blk} {s : Sto} {n I : Int} (h : VolAt w V b s n I 1) (hq0 : 0 ≤ s.q) (hq1 : s.q < 4294967290) : Calls Tryz.prog 34 #[.pointer (some ⟨V, 0, none⟩)] w fun e w' => e = .returned (.int .i64 (skeepE s)) ∧ StoreAt w' b (skeep s) ∧ Only (keepL b) w w' := by
  have c3 := h.c3
  have c0 := h.c0
  have HK := Lib.hid (skeep_any h.store hq0 hq1)
  clear h
  go_enter Tryz.func34, Tryz.ntmps34
  go_wp2_with (go_at_call 78; (with_reducible refine HK.out.mono ?_); rintro e w' ⟨rfl, hst, hO⟩)
  go_ret
  exact ⟨rfl, hst, hO⟩
theorem doD_any {w : World} {V : Nat} {b : Blk} {s : Sto} {n I : Int} {C0 C1 C2 : Nat} {u : FrameMode} (h : VolAt w V b s n I 1) (h0 : RowAt w C0 [.pointer (some ⟨V, 0, none⟩)]) (h1 : RowAt w C1 [dropV b.s]) (done : Bool) (h2 : RowAt w C2 [.bool done]) (hne : C0 ≠ V ∧ C1 ≠ V ∧ C2 ≠ V) :
    CallsD Tryz.prog 32 #[.pointer (some ⟨C0, 0, none⟩), .pointer (some ⟨C2, 0, none⟩), .pointer (some ⟨C1, 0, none⟩)] u w fun e u' w' => u' = u ∧ (e = .returned (.tuple #[]) ∧ VolAt w' V b (if done = true then s else sdrop s) n I 0 ∧ Only [V, b.t] w w') := by
  have H1 := h.set 0
  have HO := (Only.refl [V, b.t] w).setCell (p := ⟨V, 3, none⟩) (by simp) (.int .i64 0)
  have c3 := h.c3
  have f3 := h.f3
  have c0 := h0.cell 0 _ rfl
  have c1 := (h1.setOther V 3 (.int .i64 0) hne.2.1).cell 0 _ rfl
  have c2 := (h2.setOther V 3 (.int .i64 0) hne.2.2).cell 0 _ rfl
  clear h h0 h1 h2
  go_enter_d Tryz.func32, Tryz.ntmps32
  cases done with
  | true =>
    go_wp2
    go_end0
    exact ⟨rfl, H1, HO⟩
  | false =>
    have HD := Lib.hid (sdrop_any H1.store)
    unfold dropV at c1
    go_wp2_with (go_at_call 72; (with_reducible refine HD.out.mono ?_); rintro e w' ⟨rfl, hst, hO⟩)
    go_end0
    refine ⟨rfl, ⟨H1.row.block (hO.block V H1.row.lt ?_), hst, H1.nb⟩, HO.trans (hO.mono (by simp))⟩
    rw [List.mem_singleton]
    intro q
    exact H1.nb (q ▸ b.t_mem)
def Stepped {α : Type} (V : Nat) (b : Blk) (n I : Int) (s : Sto) (m : Fs.M α) (P : α → World → Prop) (P' : World → Prop) (e : Ending) (w' : World) : Prop :=
  (∃ a s' L, m (nv s) = (.ok a, nv s', L) ∧ Goes s s' L ∧ Vs s' n I ∧ skeepE s' = 0 ∧ e = .returned (.int .i64 0) ∧ VolAt w' V b (skeep s') n I 0 ∧ P a w') ∨
  (∃ er, Fails s m er ∧ er ≠ 0 ∧ e = .returned (.int .i64 er) ∧ VolAt w' V b (sdrop s) n I 0 ∧ P' w') ∨
  (∃ a s' L, m (nv s) = (.ok a, nv s', L) ∧ Goes s s' L ∧ Vs s' n I ∧ skeepE s' ≠ 0 ∧ e = .returned (.int .i64 (skeepE s')) ∧ VolAt w' V b (sdrop (skeep s')) n I 0 ∧ P a w')
theorem do_far {α : Type} {w : World} {V : Nat} {b : Blk} {s : Sto} {n I : Int} (h : VolAt w V b s n I 0) (v : Vs s n I) (hq : s.q < 4294967290) (Ls : List Nat) (hLs : ∀ k ∈ Ls, k < w.heap.size ∧ k ≠ V ∧ k ∉ b.all) (m : Fs.M α) (P : Nat → α → World → Prop) (P' : World → Prop) (hP : ∀ M a, StableN Ls w.heap.size M (P M a)) (hP' : Stable Ls w.heap.size P') (f : FuncId) (caps : Array Value) (hcf : ∀ (args : Array Value) (W : World), (callFunc f args).run Tryz.prog W = .ok (.enter f args) W)
    (hf : ∀ B w1, w.heap.size ≤ B → Ctx w1 B b s n I → Only [V] w w1 → Calls Tryz.prog f (#[.pointer (some ⟨B, 0, none⟩)] ++ caps) w1 (Cb B b n I Ls w1 s m (P w1.heap.size) P')) :
    Calls Tryz.prog 11 #[.pointer (some ⟨V, 0, none⟩), .func (.func f) #[] caps] w fun e w' => Stepped V b n I s m (fun a W => ∃ M, w.heap.size ≤ M ∧ P M a W) P' e w' ∧ Only (V :: (b.all ++ Ls)) w w' := by
  have hmf : ∀ (fn : Fn) (first cap : Array Value) (w : World), (Instr.makeFunc fn first cap).run Tryz.prog w = .ok (.func fn first cap) w := fun _ _ _ _ => rfl
  have H1 := h.alloc (.cells #[.pointer (some ⟨V, 0, none⟩)] 25)
  have S1 := (Lo.start (L := [V]) w (by have := h.row.lt; simpa using this)).alloc _ rfl [.pointer (some ⟨V, 0, none⟩)] 25
  have hov := v.snd.up
  have HV := Lib.hid (vover_any H1)
  rw [hov] at HV
  have HB := Lib.hid (begin_any H1)
  unfold dropV at HB
  have r0 := S1.get 0 _ rfl
  have c0 := r0.cell 0 _ rfl
  have hlt := h.row.lt
  go_enter_defers Tryz.func11, Tryz.ntmps11
  go_wp2_with (first
    | (go_at_call 30; (with_reducible refine HV.out.mono ?_); rintro e w' ⟨rfl, rfl⟩)
    | (go_at_call 31; (with_reducible refine HB.out.mono ?_); rintro e w2 ⟨rfl, HV2, HO2⟩; have S2 := S1.call HO2 (fun k hk => hk); have c0b : ∀ o1 o2, ((w2.alloc o1).alloc o2).cell? ⟨w.heap.size, 0, none⟩ = some (.pointer (some ⟨V, 0, none⟩)) := fun o1 o2 => (((S2.get 0 _ rfl).alloc o1).alloc o2).cell 0 _ rfl)
    | (with_reducible refine wpList_load_mid rfl 70 (.tmp 17) rfl V 0 rfl [.pointer (some ⟨b.s, 0, none⟩), .int .i64 n, .int .i64 I] _ ((HV2.alloc _).alloc _).row.base Tryz.underlying70 rfl (by kernel_rfl) ?_))
  have T1 := S2.alloc w2.heap.size rfl [dropV b.s] 1
  have T2 := T1.alloc (w2.heap.size + 1) (by simp) [.bool false] 4
  have T3 := T2.alloc (w2.heap.size + 1 + 1) (by simp) (stepL b.s n I false 0) 74
  have HV3 := ((HV2.alloc (.cells [dropV b.s].toArray 1)).alloc (.cells [.bool false].toArray 4)).alloc (.cells (stepL b.s n I false 0).toArray 74)
  have hws : w.heap.size + 1 ≤ w2.heap.size := (S1.call HO2 (fun k hk => hk)).row _ (List.mem_cons_self ..) |>.2.2
  change Calls _ _ _ (((w2.alloc (.cells [dropV b.s].toArray 1)).alloc (.cells [.bool false].toArray 4)).alloc (.cells (stepL b.s n I false 0).toArray 74)) _
  generalize hw3 : World.alloc _ _ = w3 at T3 HV3 ⊢
  have hsz3 : w3.heap.size = w2.heap.size + 1 + 1 + 1 := by rw [← hw3]; simp
  clear hw3 T1 T2 S1 S2 H1 HV HB HO2 HV2 c0 c0b r0
  obtain ⟨C1, hC1⟩ : ∃ C1, C1 = w2.heap.size := ⟨_, rfl⟩
  rw [← hC1] at T3 hws hsz3 ⊢
  clear hC1 w2
  have T : Lo [V] w [(w.heap.size, [.pointer (some ⟨V, 0, none⟩)]), (C1, [dropV b.s]), (C1 + 1, [.bool false]), (C1 + 1 + 1, stepL b.s n I false 0)] w3 := T3
  clear T3
  have hbl : ∀ k ∈ b.all, k < w.heap.size := fun k hk => h.store.lt k hk
  have hq0 := v.snd.q0
  have r0 : RowAt w3 w.heap.size [.pointer (some ⟨V, 0, none⟩)] := T.get 0 _ rfl
  have r1 : RowAt w3 C1 [dropV b.s] := T.get 1 _ rfl
  have r2 : RowAt w3 (C1 + 1) [.bool false] := T.get 2 _ rfl
  have rB : RowAt w3 (C1 + 1 + 1) (stepL b.s n I false 0) := T.get 3 _ rfl
  have OA : Only (V :: (b.all ++ Ls)) w w3 := T.only.mono (by simp)
  refine (srun_far rB HV3.store v (fun q => by have := hbl _ q; omega) Ls (fun k hk => ⟨by have := (hLs k hk).1; omega, by have := (hLs k hk).1; omega⟩) m P P' (fun M a w1 w1' L h1 h2 h3 h4 => hP M a w1 w1' L h1 h2 h3 (by omega)) (fun w1 w1' L h1 h2 h3 h4 => hP' w1 w1' L h1 h2 h3 (by omega)) f caps hcf (fun w1 hc ho => hf _ w1 (by omega) hc (T.only.via ho (fun i hi => Or.inr (by rw [List.mem_singleton] at hi; omega))))).mono ?_
  have hkO : ∀ i, i ∈ (C1 + 1 + 1) :: b.t :: Ls → i ∈ V :: (b.all ++ Ls) ∨ w.heap.size ≤ i := fun i hi => by
    rcases List.mem_cons.1 hi with rfl | hi
    · right; omega
    · left
      rcases List.mem_cons.1 hi with rfl | hi
      · exact List.mem_cons_of_mem _ (List.mem_append_left _ b.t_mem)
      · exact List.mem_cons_of_mem _ (List.mem_append_right _ hi)
  have hnC : ∀ k, w.heap.size ≤ k → k ≠ C1 + 1 + 1 → k ∉ (C1 + 1 + 1) :: b.t :: Ls := fun k hk hne q => by
    rcases List.mem_cons.1 q with q | q
    · exact hne q
    · rcases List.mem_cons.1 q with q | q
      · have := hbl _ b.t_mem; omega
      · have := (hLs k q).1; omega
  have hnV : V ∉ (C1 + 1 + 1) :: b.t :: Ls := fun q => by
    rcases List.mem_cons.1 q with q | q
    · omega
    · rcases List.mem_cons.1 q with q | q
      · exact h.nb (q ▸ b.t_mem)
      · exact (hLs V q).2.1 rfl
  rintro e w4 (⟨a, s', L, E, G, rfl, hst, v', ⟨M, hM, hPa⟩, O⟩ | ⟨er, s', F, h0, rfl, hst, hs', hPw, O⟩)
  · have OB := OA.via O hkO
    have HV4 : VolAt w4 V b s' n I 1 := ⟨HV3.row.only O hnV, hst, h.nb⟩
    have k0 : RowAt w4 w.heap.size [.pointer (some ⟨V, 0, none⟩)] := r0.only O (hnC _ (by omega) (by omega))
    have k1 : RowAt w4 C1 [dropV b.s] := r1.only O (hnC _ (by omega) (by omega))
    have k2 : RowAt w4 (C1 + 1) [.bool false] := r2.only O (hnC _ (by omega) (by omega))
    have c0 := k0.cell 0 _ rfl
    have HK := Lib.hid (vkeep_any HV4 (by rw [G.same]; exact hq0) (by rw [G.same]; exact hq))
    have hkL : ∀ i ∈ keepL b, i ∈ b.all := fun i hi => by simp only [keepL, Blk.all, List.mem_cons, List.not_mem_nil, or_false] at hi ⊢; rcases hi with h | h | h | h | h | h <;> simp [h]
    have hnK : ∀ k, w.heap.size ≤ k → k ∉ keepL b := fun k hk q => by have := hbl _ (hkL _ q); omega
    have hnVK : V ∉ keepL b := fun q => h.nb (hkL _ q)
    by_cases hke : skeepE s' = 0
    · rw [hke] at HK
      have arm : ∀ w5, StoreAt w5 b (skeep s') → Only (keepL b) w4 w5 → VolAt w5 V b (skeep s') n I 1 ∧ RowAt w5 w.heap.size [.pointer (some ⟨V, 0, none⟩)] ∧ RowAt w5 C1 [dropV b.s] ∧ RowAt w5 (C1 + 1) [.bool false] ∧ (∀ a, P M a w4 → P M a w5) ∧ Only (V :: (b.all ++ Ls)) w w5 := fun w5 hs5 ho => ⟨⟨HV4.row.only ho hnVK, hs5, h.nb⟩, k0.only ho (hnK _ (by omega)), k1.only ho (hnK _ (by omega)), k2.only ho (hnK _ (by omega)), fun a hp => hP M a _ _ _ hp ho (fun k hk => ⟨fun q => (hLs k q).2.2 (hkL _ hk), by have := hbl _ (hkL _ hk); omega⟩) OB.size, OB.via ho (fun i hi => Or.inl (List.mem_cons_of_mem _ (List.mem_append_left _ (hkL _ hi))))⟩
      go_wp2_with (go_at_call 34; (with_reducible refine HK.out.mono ?_); rintro e w5 ⟨rfl, hs5, hO5⟩; obtain ⟨HV5, j0, j1, j2, hPP, OC⟩ := arm w5 hs5 hO5; have c2 := j2.cell 0 _ rfl; have f2 := j2.frozen 0 (show 0 < 1 by decide))
      have HV6 : VolAt (w5.setCell ⟨C1 + 1, 0, none⟩ (.bool true)) V b (skeep s') n I 1 := HV5.only (L := [C1 + 1]) ((Only.refl _ w5).setCell (p := ⟨C1 + 1, 0, none⟩) (by simp) _) (by simp; omega) (fun i hi q => by rw [List.mem_singleton] at q; have := hbl _ hi; omega)
      have i0 := j0.setOther (C1 + 1) 0 (.bool true) (by omega)
      have i1 := j1.setOther (C1 + 1) 0 (.bool true) (by omega)
      have i2 : RowAt (w5.setCell ⟨C1 + 1, 0, none⟩ (.bool true)) (C1 + 1) [.bool true] := RowAt.setOne j2 0 (.bool true) (show 0 < 1 by decide)
      have O6 : Only [C1 + 1] w5 (w5.setCell ⟨C1 + 1, 0, none⟩ (.bool true)) := (Only.refl _ w5).setCell (p := ⟨C1 + 1, 0, none⟩) (by simp) _
      generalize World.setCell _ _ _ = w6 at HV6 i0 i1 i2 O6 ⊢
      show Leaves _ _ _ _ _ _ _
      refine leaves_cons (f := 32) (args := #[.pointer (some ⟨w.heap.size, 0, none⟩), .pointer (some ⟨C1 + 1, 0, none⟩), .pointer (some ⟨C1, 0, none⟩)]) (by simp) (by simp [go_sem]) ?_
      refine (doD_any HV6 i0 i1 true i2 ⟨by omega, by omega, by omega⟩).mono ?_
      rintro e u' w7 ⟨rfl, rfl, HV7, hO7⟩
      simp [Leaves, settle, results, Tryz.results11, go_sem]
      have O7 : Only [C1 + 1, V, b.t] w5 w7 := (O6.mono (by simp)).trans (hO7.mono (by simp))
      refine ⟨Or.inl ⟨a, s', L, E, G, v', hke, rfl, HV7, ⟨M, by omega, hP M a _ _ _ (hPP a hPa) O7 (fun k hk => ?_) OC.size⟩⟩, OC.via O7 (fun i hi => ?_)⟩
      · simp only [List.mem_cons, List.not_mem_nil, or_false] at hk
        refine ⟨fun q => ?_, ?_⟩
        · obtain ⟨q1, q2, q3⟩ := hLs k q
          rcases hk with rfl | rfl | rfl
          · omega
          · exact q2 rfl
          · exact q3 b.t_mem
        · rcases hk with rfl | rfl | rfl
          · omega
          · omega
          · have := hbl _ b.t_mem; omega
      · simp only [List.mem_cons, List.not_mem_nil, or_false] at hi
        rcases hi with rfl | rfl | rfl
        · right; omega
        · left; exact List.mem_cons_self ..
        · left; exact List.mem_cons_of_mem _ (List.mem_append_left _ b.t_mem)
    · have hke' : (skeepE s' == 0) = false := by simpa using hke
      have arm : ∀ w5, StoreAt w5 b (skeep s') → Only (keepL b) w4 w5 → VolAt w5 V b (skeep s') n I 1 ∧ RowAt w5 w.heap.size [.pointer (some ⟨V, 0, none⟩)] ∧ RowAt w5 C1 [dropV b.s] ∧ RowAt w5 (C1 + 1) [.bool false] ∧ (∀ a, P M a w4 → P M a w5) ∧ Only (V :: (b.all ++ Ls)) w w5 := fun w5 hs5 ho => ⟨⟨HV4.row.only ho hnVK, hs5, h.nb⟩, k0.only ho (hnK _ (by omega)), k1.only ho (hnK _ (by omega)), k2.only ho (hnK _ (by omega)), fun a hp => hP M a _ _ _ hp ho (fun k hk => ⟨fun q => (hLs k q).2.2 (hkL _ hk), by have := hbl _ (hkL _ hk); omega⟩) OB.size, OB.via ho (fun i hi => Or.inl (List.mem_cons_of_mem _ (List.mem_append_left _ (hkL _ hi))))⟩
      go_wp2_with (go_at_call 34; (with_reducible refine HK.out.mono ?_); rintro e w5 ⟨rfl, hs5, hO5⟩; obtain ⟨HV5, j0, j1, j2, hPP, OC⟩ := arm w5 hs5 hO5)
      show Leaves _ _ _ _ _ _ _
      refine leaves_cons (f := 32) (args := #[.pointer (some ⟨w.heap.size, 0, none⟩), .pointer (some ⟨C1 + 1, 0, none⟩), .pointer (some ⟨C1, 0, none⟩)]) (by simp) (by simp [go_sem]) ?_
      refine (doD_any HV5 j0 j1 false j2 ⟨by omega, by omega, by omega⟩).mono ?_
      rintro e u' w7 ⟨rfl, rfl, HV7, hO7⟩
      simp [Leaves, settle, results, Tryz.results11, go_sem]
      refine ⟨Or.inr (Or.inr ⟨a, s', L, E, G, v', hke, rfl, HV7, ⟨M, by omega, hP M a _ _ _ (hPP a hPa) hO7 (fun k hk => ?_) OC.size⟩⟩), OC.via hO7 (fun i hi => ?_)⟩
      · simp only [List.mem_cons, List.not_mem_nil, or_false] at hk
        refine ⟨fun q => ?_, ?_⟩
        · obtain ⟨q1, q2, q3⟩ := hLs k q
          rcases hk with rfl | rfl
          · exact q2 rfl
          · exact q3 b.t_mem
        · rcases hk with rfl | rfl
          · omega
          · have := hbl _ b.t_mem; omega
      · simp only [List.mem_cons, List.not_mem_nil, or_false] at hi
        rcases hi with rfl | rfl
        · left; exact List.mem_cons_self ..
        · left; exact List.mem_cons_of_mem _ (List.mem_append_left _ b.t_mem)
  · obtain ⟨gk, _⟩ : ∃ _ : er ≠ 0, True := ⟨h0, trivial⟩
    go_wp2_with fail
    have OB := OA.via O hkO
    have HV4 : VolAt w4 V b s' n I 1 := ⟨HV3.row.only O hnV, hst, h.nb⟩
    have k0 : RowAt w4 w.heap.size [.pointer (some ⟨V, 0, none⟩)] := r0.only O (hnC _ (by omega) (by omega))
    have k1 : RowAt w4 C1 [dropV b.s] := r1.only O (hnC _ (by omega) (by omega))
    have k2 : RowAt w4 (C1 + 1) [.bool false] := r2.only O (hnC _ (by omega) (by omega))
    show Leaves _ _ _ _ _ _ _
    refine leaves_cons (f := 32) (args := #[.pointer (some ⟨w.heap.size, 0, none⟩), .pointer (some ⟨C1 + 1, 0, none⟩), .pointer (some ⟨C1, 0, none⟩)]) (by simp) (by simp [go_sem]) ?_
    refine (doD_any HV4 k0 k1 false k2 ⟨by omega, by omega, by omega⟩).mono ?_
    rintro e u' w7 ⟨rfl, rfl, HV7, hO7⟩
    simp [Leaves, settle, results, Tryz.results11, go_sem]
    have hdr : sdrop s' = sdrop s := by rw [hs']; rfl
    rw [if_neg (by decide), hdr] at HV7
    refine ⟨Or.inr (Or.inl ⟨er, F, h0, rfl, HV7, hP' _ _ _ hPw hO7 (fun k hk q => ?_) OB.size⟩), OB.via hO7 (fun i hi => ?_)⟩
    · simp only [List.mem_cons, List.not_mem_nil, or_false] at hk
      obtain ⟨q1, q2, q3⟩ := hLs k q
      rcases hk with rfl | rfl
      · exact q2 rfl
      · exact q3 b.t_mem
    · simp only [List.mem_cons, List.not_mem_nil, or_false] at hi
      rcases hi with rfl | rfl
      · left; exact List.mem_cons_self ..
      · left; exact List.mem_cons_of_mem _ (List.mem_append_left _ b.t_mem)
theorem Stepped.mono {α : Type} {V : Nat} {b : Blk} {n I : Int} {s : Sto} {m : Fs.M α} {P Q : α → World → Prop} {P' : World → Prop} {e : Ending} {w' : World} (hPQ : ∀ a w, P a w → Q a w) (h : Stepped V b n I s m P P' e w') : Stepped V b n I s m Q P' e w' := by
  rcases h with ⟨a, s', L, h1, h2, h3, h4, h5, h6, h7⟩ | h | ⟨a, s', L, h1, h2, h3, h4, h5, h6, h7⟩
  · exact Or.inl ⟨a, s', L, h1, h2, h3, h4, h5, h6, hPQ _ _ h7⟩
  · exact Or.inr (Or.inl h)
  · exact Or.inr (Or.inr ⟨a, s', L, h1, h2, h3, h4, h5, h6, hPQ _ _ h7⟩)
theorem do_any {α : Type} {w : World} {V : Nat} {b : Blk} {s : Sto} {n I : Int} (h : VolAt w V b s n I 0) (v : Vs s n I) (hq : s.q < 4294967290) (Ls : List Nat) (hLs : ∀ k ∈ Ls, k < w.heap.size ∧ k ≠ V ∧ k ∉ b.all) (m : Fs.M α) (P : α → World → Prop) (P' : World → Prop) (hP : ∀ a, Stable Ls w.heap.size (P a)) (hP' : Stable Ls w.heap.size P') (f : FuncId) (caps : Array Value) (hcf : ∀ (args : Array Value) (W : World), (callFunc f args).run Tryz.prog W = .ok (.enter f args) W)
    (hf : ∀ B w1, w.heap.size ≤ B → Ctx w1 B b s n I → Only [V] w w1 → Calls Tryz.prog f (#[.pointer (some ⟨B, 0, none⟩)] ++ caps) w1 (Cb B b n I Ls w1 s m P P')) :
    Calls Tryz.prog 11 #[.pointer (some ⟨V, 0, none⟩), .func (.func f) #[] caps] w fun e w' => Stepped V b n I s m P P' e w' ∧ Only (V :: (b.all ++ Ls)) w w' :=
  (do_far h v hq Ls hLs m (fun _ => P) P' (fun _ a w w' L h1 h2 h3 h4 => hP a w w' L h1 h2 (fun k hk => (h3 k hk).1) h4) hP' f caps hcf hf).mono fun _ _ hh => ⟨hh.1.mono fun _ _ h7 => h7.choose_spec.2, hh.2⟩
end

section
open Go.RowKit Go.Maps
open Dk (zeros zeros_length)
open Ii (Ino)
def syncL (b : Blk) : List Nat := [b.j, b.d, b.l, b.m, b.g]
theorem vsync_any {w : World} {V : Nat} {b : Blk} {s : Sto} {n I k : Int} (h : VolAt w V b s n I k) (hup : s.over = false) (hq0 : 0 ≤ s.q) (hq1 : s.q < 4294967290) : Calls Tryz.prog 105 #[.pointer (some ⟨V, 0, none⟩)] w fun e w' => e = .returned (.int .i64 (ssyncE s)) ∧ VolAt w' V b (ssync s) n I k ∧ Only (syncL b) w w' := by
  have HV := Lib.hid (vover_any h)
  rw [hup] at HV
  have HI := Lib.hid (ssync_any h.store hq0 hq1)
  have c0 := h.c0
  have hsub : ∀ i ∈ syncL b, i ∈ b.all := fun i hi => by simp only [syncL, Blk.all, List.mem_cons, List.not_mem_nil, or_false] at hi ⊢; rcases hi with h | h | h | h | h <;> simp [h]
  go_enter Tryz.func105, Tryz.ntmps105
  go_wp2_with (first
    | (go_at_call 30; refine HV.out.mono ?_; rintro e w1 ⟨rfl, rfl⟩)
    | (go_at_call 121; refine HI.out.mono ?_; rintro e w1 ⟨rfl, hst, hO⟩))
  go_ret
  exact ⟨rfl, ⟨h.row.only hO (fun q => h.nb (hsub _ q)), hst, h.nb⟩, hO⟩
end

section
open Go.RowKit Go.Maps
open Dk (zeros zeros_length)
open Ii (Ino)
namespace Fs
end Fs
theorem planT2 : RowT 68 2 := ⟨⟨_, Tryz.underlying68, rfl⟩, by kernel_rfl⟩
theorem planL_one2 (n I : Int) : ∀ v ∈ ([.int .i64 n, .int .i64 I] : List Value), v.oneCell' = true := by
  intro v hv
  simp only [List.mem_cons, List.not_mem_nil, or_false] at hv
  rcases hv with rfl | rfl <;> rfl
end

section
open Go.RowKit Go.Maps
open Dk (zeros zeros_length)
open Ii (Ino)
structure Fop where
  k : Int
  ino : Int
  off : Int
  n : Int
  text : List UInt8
  x : Ino
namespace Fs
end Fs
end

section
open Go.RowKit Go.Maps
open Dk (zeros zeros_length)
open Ii (Ino)
def StepTo {α : Type} (n I : Int) (s : Sto) (m : Fs.M α) (er : Int) (s2 : Sto) (a : Option α) : Prop :=
  (∃ x s' L, m (nv s) = (.ok x, nv s', L) ∧ Goes s s' L ∧ Vs s' n I ∧ skeepE s' = 0 ∧ er = 0 ∧ s2 = skeep s' ∧ a = some x) ∨
  (Fails s m er ∧ er ≠ 0 ∧ s2 = sdrop s ∧ a = none) ∨
  (∃ x s' L, m (nv s) = (.ok x, nv s', L) ∧ Goes s s' L ∧ Vs s' n I ∧ skeepE s' ≠ 0 ∧ er = skeepE s' ∧ s2 = sdrop (skeep s') ∧ a = some x)
theorem Stepped.to {α : Type} {V : Nat} {b : Blk} {n I : Int} {s : Sto} {m : Fs.M α} {P : α → World → Prop} {P' : World → Prop} {e : Ending} {w' : World} (h : Stepped V b n I s m P P' e w') :
    ∃ er s2 a, StepTo n I s m er s2 a ∧ e = .returned (.int .i64 er) ∧ VolAt w' V b s2 n I 0 ∧ (match a with | some x => P x w' | none => P' w') := by
  rcases h with ⟨a, s', L, h1, h2, h3, h4, h5, h6, h7⟩ | ⟨er, h1, h2, h3, h4, h5⟩ | ⟨a, s', L, h1, h2, h3, h4, h5, h6, h7⟩
  · exact ⟨0, _, some a, Or.inl ⟨a, s', L, h1, h2, h3, h4, rfl, rfl, rfl⟩, h5, h6, h7⟩
  · exact ⟨er, _, none, Or.inr (Or.inl ⟨h1, h2, rfl, rfl⟩), h3, h4, h5⟩
  · exact ⟨_, _, some a, Or.inr (Or.inr ⟨a, s', L, h1, h2, h3, h4, rfl, rfl, rfl⟩), h5, h6, h7⟩
end

section
open Go.ChangeShapes Go.WideShapes Go.ChangeAt Go.RowKit
open Dk (zeros zeros_length)
structure Dop where
  k : Int
  ino : Int
  to : Int
  name : List UInt8
  text : List UInt8
def dopL (o : Dop) : List Value := [.int .i64 o.k, .int .i64 o.ino, .int .i64 o.to, .string (strOf o.name), .string (strOf o.text)]
def dopV (o : Dop) : Value := .agg (dopL o).toArray
theorem dopL_one (o : Dop) : ∀ v ∈ dopL o, v.oneCell' = true := by
  intro v hv
  simp only [dopL, List.mem_cons, List.not_mem_nil, or_false] at hv
  rcases hv with rfl | rfl | rfl | rfl | rfl <;> rfl
theorem dopT : RowT 31 5 := ⟨⟨_, Tryz.underlying31, rfl⟩, by kernel_rfl⟩
structure DopOk (o : Dop) : Prop where
  k0 : -9223372036854775808 ≤ o.k
  k1 : o.k ≤ 9223372036854775807
  lo : -9223372036854775808 ≤ o.to
  hi : o.to ≤ 9223372036854775807
structure DopRow (w : World) (A : Option Addr) (n : Nat) (os : List Dop) : Prop where
  len : os.length = n
  small : n ≤ maxLen
  ok : ∀ o ∈ os, DopOk o
  cells : 0 < n → ∃ b off, A = some ⟨b, off, none⟩ ∧ b < w.heap.size ∧ ∀ i o, os[i]? = some o → w.rangeAt b (off + i * 5) (dopL o)
theorem DopRow.step {w w' : World} {A : Option Addr} {n : Nat} {os : List Dop} (h : DopRow w A n os) (hb : Below w.heap.size w w') : DopRow w' A n os :=
  ⟨h.len, h.small, h.ok, fun h0 => by
    obtain ⟨b, off, e, hlt, hc⟩ := h.cells h0
    exact ⟨b, off, e, Nat.lt_of_lt_of_le hlt hb.size, fun i c hi => rangeAt_block (hc i c hi) (hb.block _ hlt)⟩⟩
theorem cellsDop : Tryz.prog.cellsOf 31 = 5 := by kernel_rfl
theorem ecellsStr : Tryz.prog.cellsOf 9 = 1 := by kernel_rfl
theorem dop_cells {H : Type} {enc : TypeId × Value → H} {W : World} {fuel : Nat} {base : Nat} {spare : Nat → Bool} {held : Bool} {cs : List Value} {z : DataW H × List MemPlace} (ht : DataW.trod enc Tryz.prog W base spare held fuel 31 cs = some z) :
    ∃ o : Dop, DopOk o ∧ cs = dopL o := by
  obtain ⟨xs, n, _, rfl, hcl, hlen, hf⟩ := DataW.trod_struct Tryz.underlying31 ht
  rw [cellsDop] at hcl
  match xs, hlen with
  | [y0, y1, y2, y3, y4], _ =>
    obtain ⟨k, e0, _, w0⟩ := DataW.trod_int Tryz.underlying3 (hf 0 _ rfl)
    obtain ⟨i, e1, _, _⟩ := DataW.trod_int Tryz.underlying3 (hf 1 _ rfl)
    obtain ⟨f, e2, _, w2⟩ := DataW.trod_int Tryz.underlying3 (hf 2 _ rfl)
    obtain ⟨s, e3, _, s3⟩ := DataW.trod_string Tryz.underlying9 (hf 3 _ rfl)
    obtain ⟨r, e4, _, s4⟩ := DataW.trod_string Tryz.underlying9 (hf 4 _ rfl)
    have hb0 := bounds_i64 w0
    have hb := bounds_i64 w2
    refine ⟨⟨k, i, f, s.data.toList, r.data.toList⟩, ⟨hb0.1, hb0.2, hb.1, hb.2⟩, ?_⟩
    have c0 : (cs.drop 0).take (Tryz.prog.cellsOf 3) = [.int .i64 k] := e0
    have c1 : (cs.drop 1).take (Tryz.prog.cellsOf 3) = [.int .i64 i] := e1
    have c2 : (cs.drop 2).take (Tryz.prog.cellsOf 3) = [.int .i64 f] := e2
    have c3 : (cs.drop 3).take (Tryz.prog.cellsOf 9) = [.string s] := e3
    have c4 : (cs.drop 4).take (Tryz.prog.cellsOf 9) = [.string r] := e4
    rw [cellsI] at c0 c1 c2
    rw [ecellsStr] at c3 c4
    match cs, hcl with
    | [v0, v1, v2, v3, v4], _ =>
      simp at c0 c1 c2 c3 c4
      subst c0 c1 c2 c3 c4
      unfold dopL
      rw [strOf_bytes, strOf_bytes]
theorem open_dops {H : Type} {enc : TypeId × Value → H} {W : World} {base : Nat} {v : Value} {d : DataW H} {p : List MemPlace} (hv : Value.okWide Tryz.prog W .any base 22 v)
    (h : DataW.Trod enc Tryz.prog W 0 (fun _ => true) true 22 v d p) : ∃ A n c os, v = .slice A n c ∧ DopRow W A n os := by
  obtain ⟨A, n, c, rfl⟩ := okWide_slice Tryz.underlying22 hv
  obtain ⟨fuel, hf⟩ := h
  rcases Go.Deep.open_slice Tryz.underlying22 hf with ⟨hcs, _⟩ | ⟨a, len, cap, m, k, D, Pl, hcs, _, hl, hm, hmm, _, hi⟩
  · simp [Value.cells] at hcs
    obtain ⟨rfl, rfl, rfl⟩ := hcs
    exact ⟨_, _, _, [], rfl, rfl, by unfold maxLen; omega, fun o ho => absurd ho (by simp), fun hn => by omega⟩
  · simp [Value.cells] at hcs
    obtain ⟨rfl, rfl, rfl⟩ := hcs
    simp only [if_true] at hmm
    have each : ∀ i, i < n → ∃ o : Dop, DopOk o ∧ ∀ j u, (dopL o)[j]? = some u → W.cell? ((a.add (i * 5)).add j) = some u := by
      intro i hin
      obtain ⟨cs, hc, ht⟩ := hi i (by omega)
      rw [cellsDop] at hc
      obtain ⟨_, hcl, hat⟩ := World.cells?_some hc
      obtain ⟨o, ho, he⟩ := dop_cells ht
      refine ⟨o, ho, fun j u hu => ?_⟩
      rw [← he] at hu
      have hj : j < 5 := by have := (List.getElem?_eq_some_iff.1 hu).1; omega
      rw [hat j hj, hu]
    obtain ⟨os, hol, hos⟩ := list_of _ n each
    have hget : ∀ i o, os[i]? = some o → DopOk o ∧ ∀ j u, (dopL o)[j]? = some u → W.cell? ((a.add (i * 5)).add j) = some u := by
      intro i o ho
      have hin : i < n := by have := (List.getElem?_eq_some_iff.1 ho).1; omega
      obtain ⟨q, hq, h1⟩ := hos i hin
      rw [ho] at hq
      injection hq with hq
      rw [hq]; exact h1
    refine ⟨_, _, _, os, rfl, hol, by omega, fun o ho => ?_, fun hn => ?_⟩
    · obtain ⟨i, hi', he⟩ := List.getElem_of_mem ho
      exact (hget i o (by rw [List.getElem?_eq_getElem hi', he])).1
    · obtain ⟨o0, ho0⟩ : ∃ o, os[0]? = some o := ⟨_, List.getElem?_eq_getElem (by omega)⟩
      obtain ⟨b, off, spot⟩ := a
      have hcell0 := (hget 0 o0 ho0).2 0 _ (show (dopL o0)[0]? = some (.int .i64 o0.k) from rfl)
      have hspot : spot = none := by simpa [Addr.add] using World.cell?_spot hcell0
      subst hspot
      refine ⟨b, off, rfl, ?_, fun i o ho j u hu => ?_⟩
      · rw [Addr.add_mid, Addr.add_mid] at hcell0
        exact World.block_lt_of_cell? W _ hcell0
      · have := (hget i o ho).2 j u hu
        rw [Addr.add_mid, Addr.add_mid] at this
        exact this
end

section
open Go.RowKit Go.Maps
open Dk (zeros zeros_length)
def DirGreat (os : List Dop) (w : World) (e : Ending) (w' : World) : Prop :=
  ∃ g : Bool, e = .returned (.bool g) ∧ (g = false → os.length ≤ 80 ∧ ∀ o ∈ os, o.name.length ≤ 300 ∧ o.text.length ≤ 200) ∧ Below w.heap.size w w'
theorem dgreat_any {w : World} {A : Option Addr} {n c : Nat} {os : List Dop} (h : DopRow w A n os) : Calls Tryz.prog 6 #[.slice A n c] w (DirGreat os w) := by
  have hsm := h.small
  have HR := Lib.hid h
  have HL := Lib.hid h.len
  have S0 := Lib.hid (Lo.start (L := []) w (by simp))
  unfold maxLen at hsm
  clear h
  by_cases hgr : (80 : Int) < (n : Int)
  · go_enter Tryz.func6, Tryz.ntmps6
    go_wp2_with fail
    go_ret
    exact ⟨true, rfl, (fun q => by cases q), Below.refl _ _⟩
  · go_enter Tryz.func6, Tryz.ntmps6
    go_wp2_with fail
    go_loopw [10] (fun i wr => ∃ (k : Nat), k ≤ n ∧ i = .int .i64 k ∧ Lo [] w [] wr ∧ Hid (∀ j o, j < k → os[j]? = some o → o.name.length ≤ 300 ∧ o.text.length ≤ 200)) (fun i _ => n - (intOf i).toNat)
    case atStart => exact ⟨0, Nat.zero_le _, rfl, S0.out, Lib.hid (fun j o hj => by omega)⟩
    case round =>
      clear S0
      obtain ⟨k, hk, rfl, hS, HG⟩ := hrel
      have S := Lib.hid hS
      clear hS
      by_cases hlt : k < n
      · obtain ⟨o, ho⟩ : ∃ o, os[k]? = some o := ⟨_, List.getElem?_eq_getElem (by rw [HL.out]; exact hlt)⟩
        have HR2 := Lib.hid (HR.out.step S.out.bel)
        obtain ⟨pb, poff, rfl, hpb, hpr⟩ := HR2.out.cells (by omega)
        have HPI := Lib.hid (hpr k o ho)
        have HK := Lib.hid ho
        clear hpr hpb ho
        have HSZ : Hid ((strOf o.name).size = o.name.length) := Lib.hid (strOf_size o.name)
        have HSY : Hid ((strOf o.text).size = o.text.length) := Lib.hid (strOf_size o.text)
        by_cases hq : (300 : Int) < ((strOf o.name).size : Int)
        · go_wp2_with (first
            | (with_reducible refine wpList_load_mid rfl 31 (.tmp 12) rfl pb (poff + k * 5) rfl (dopL o) _ HPI.out Tryz.underlying31 rfl (by kernel_rfl) ?_)
            | ((with_reducible refine wpList_store_newrow (vs := dopL o) dopT ?_ (dopL_one _) rfl (.tmp 4) (.tmp 13) rfl rfl ?_ ?_ ?_); (exact rfl); (exact rfl); (exact rfl); intro W4 hP hB2 hz2; have S2 := Lib.hid (S.out.made hP hB2 hz2); clear hP hB2 hz2; have c3 := (S2.out.get 0 _ rfl).cell 3 _ rfl; have c4 := (S2.out.get 0 _ rfl).cell 4 _ rfl))
          go_ret
          exact ⟨true, rfl, (fun q => by cases q), S2.out.bel⟩
        · by_cases hq2 : (200 : Int) < ((strOf o.text).size : Int)
          · go_wp2_with (first
              | (with_reducible refine wpList_load_mid rfl 31 (.tmp 12) rfl pb (poff + k * 5) rfl (dopL o) _ HPI.out Tryz.underlying31 rfl (by kernel_rfl) ?_)
              | ((with_reducible refine wpList_store_newrow (vs := dopL o) dopT ?_ (dopL_one _) rfl (.tmp 4) (.tmp 13) rfl rfl ?_ ?_ ?_); (exact rfl); (exact rfl); (exact rfl); intro W4 hP hB2 hz2; have S2 := Lib.hid (S.out.made hP hB2 hz2); clear hP hB2 hz2; have c3 := (S2.out.get 0 _ rfl).cell 3 _ rfl; have c4 := (S2.out.get 0 _ rfl).cell 4 _ rfl))
            go_ret
            exact ⟨true, rfl, (fun q => by cases q), S2.out.bel⟩
          · go_wp2_with (first
              | (with_reducible refine wpList_load_mid rfl 31 (.tmp 12) rfl pb (poff + k * 5) rfl (dopL o) _ HPI.out Tryz.underlying31 rfl (by kernel_rfl) ?_)
              | ((with_reducible refine wpList_store_newrow (vs := dopL o) dopT ?_ (dopL_one _) rfl (.tmp 4) (.tmp 13) rfl rfl ?_ ?_ ?_); (exact rfl); (exact rfl); (exact rfl); intro W4 hP hB2 hz2; have S2 := Lib.hid (S.out.made hP hB2 hz2); clear hP hB2 hz2; have c3 := (S2.out.get 0 _ rfl).cell 3 _ rfl; have c4 := (S2.out.get 0 _ rfl).cell 4 _ rfl))
            go_roundw
            case rel => exact ⟨k + 1, by omega, by go_num, S2.out.cut 0, Lib.hid (fun j o' hj ho' => by
              by_cases e : j = k
              · subst e
                have := HK.out
                rw [ho'] at this
                injection this with this
                subst this
                have := HSZ.out
                have := HSY.out
                omega
              · exact HG.out j o' (by omega) ho')⟩
            case measure => simp [intOf]; omega
      · obtain rfl : k = n := by omega
        go_wp2_with fail
        go_ret
        refine ⟨false, rfl, fun _ => ⟨by have := HL.out; omega, fun o ho => ?_⟩, S.out.bel⟩
        obtain ⟨j, hj, he⟩ := List.getElem_of_mem ho
        exact HG.out j o (by have := HL.out; omega) (by rw [List.getElem?_eq_getElem hj, he])
end

namespace Nm
open Go.Proofs.YtmpfcgjjejlhdaaGreat.Pg
def bad (c : UInt8) : Bool := c == 0 || c == 47
def badB (s : List UInt8) : Bool := s.any bad
def chk (s : List UInt8) : Int := if s.length = 0 then 2 else if 13 < s.length then 36 else if s = [46] ∨ s = [46, 46] ∨ badB s = true then 22 else 0
def okB (s : List UInt8) : Bool := decide (chk s = 0)
def rightB (n : Int) (s : List UInt8) : Bool := decide (1 ≤ n ∧ n ≤ 65535 ∧ chk s = 0)
def zeroB (n : Int) (s : List UInt8) : Bool := decide (n = 0 ∧ s = [])
def standB (n : Int) (s : List UInt8) : Bool := zeroB n s || rightB n s
theorem chk_len {s : List UInt8} (h : chk s = 0) : 1 ≤ s.length ∧ s.length ≤ 13 := by
  unfold chk at h
  split at h
  · omega
  · split at h
    · omega
    · omega
theorem right_yes {n : Int} {s : List UInt8} (h : rightB n s = true) : 1 ≤ n ∧ n ≤ 65535 ∧ chk s = 0 := of_decide_eq_true h
theorem zero_yes {n : Int} {s : List UInt8} (h : zeroB n s = true) : n = 0 ∧ s = [] := of_decide_eq_true h
theorem stand_yes {n : Int} {s : List UInt8} (h : standB n s = true) : (n = 0 ∧ s = []) ∨ (1 ≤ n ∧ n ≤ 65535 ∧ chk s = 0) := by
  unfold standB at h
  rw [Bool.or_eq_true] at h
  exact h.imp zero_yes right_yes
theorem stand_bd {n : Int} {s : List UInt8} (h : standB n s = true) : 0 ≤ n ∧ n ≤ 65535 ∧ s.length ≤ 13 := by
  rcases stand_yes h with ⟨rfl, rfl⟩ | ⟨h1, h2, h3⟩
  · exact ⟨by omega, by omega, by simp⟩
  · exact ⟨by omega, h2, (chk_len h3).2⟩
def zs (k : Nat) : List UInt8 := List.replicate k 0
theorem zs_length (k : Nat) : (zs k).length = k := List.length_replicate
def slot (n : Int) (s : List UInt8) : List UInt8 := byteAt 1 n :: byteAt 0 n :: byteAt 0 s.length :: (s ++ zs (13 - s.length))
theorem slot_length (n : Int) {s : List UInt8} (h : s.length ≤ 13) : (slot n s).length = 16 := by
  unfold slot
  simp [zs_length]
  omega
theorem slot_zero : slot 0 [] = zs 16 := by decide
def at_ (p : List UInt8) (i : Nat) : List UInt8 := (p.drop (16 * i)).take 16
theorem at_length {p : List UInt8} (hp : p.length = 64) {i : Nat} (hi : i < 4) : (at_ p i).length = 16 := by
  unfold at_
  simp
  omega
def lay (p : List UInt8) (i : Nat) (b : List UInt8) : List UInt8 := over p (16 * i) b
theorem lay_length {p b : List UInt8} (hp : p.length = 64) {i : Nat} (hi : i < 4) (hb : b.length = 16) : (lay p i b).length = 64 := by
  unfold lay
  rw [over_length _ _ _ (by omega), hp]
theorem at_lay {p b : List UInt8} (hp : p.length = 64) {i : Nat} (hi : i < 4) (hb : b.length = 16) : at_ (lay p i b) i = b := by
  unfold at_ lay
  have := over_back p (16 * i) b (by omega)
  rw [hb] at this
  exact this
theorem at_get (p : List UInt8) (i j : Nat) : (at_ p i)[j]? = if j < 16 then p[16 * i + j]? else none := by
  unfold at_
  rw [List.getElem?_take]
  split
  · rw [List.getElem?_drop]
  · rfl
theorem lay_at {p : List UInt8} (hp : p.length = 64) {i : Nat} (hi : i < 4) : lay p i (at_ p i) = p := by
  apply List.ext_getElem?
  intro j
  unfold lay
  rw [over_at _ _ _ _ (by rw [at_length hp hi]; omega), at_length hp hi]
  split
  · rfl
  · split
    · rw [at_get, if_pos (by omega)]
      congr 1
      omega
    · rfl
theorem lay_eq {p b : List UInt8} (hp : p.length = 64) {i : Nat} (hi : i < 4) (hb : b.length = 16) : lay p i b = p ↔ b = at_ p i := by
  constructor
  · intro h
    have := at_lay (b := b) hp hi hb
    rw [h] at this
    exact this.symm
  · intro h
    rw [h]
    exact lay_at hp hi
theorem over_over (p : List UInt8) (a : Nat) (t : List UInt8) (k : Nat) (s : List UInt8) (h1 : k + s.length ≤ t.length) (h2 : a + t.length ≤ p.length) : over (over p a t) (a + k) s = over p a (over t k s) := by
  apply List.ext_getElem?
  intro j
  rw [over_at _ _ _ _ (by rw [over_length _ _ _ h2]; omega), over_at _ _ _ _ h2, over_at p a _ _ (by rw [over_length _ _ _ h1]; exact h2), over_length _ _ _ h1, over_at _ _ _ _ h1]
  by_cases c1 : j < a
  · rw [if_pos (by omega), if_pos c1, if_pos c1]
  · rw [if_neg c1, if_neg c1]
    by_cases c2 : j < a + t.length
    · rw [if_pos c2, if_pos c2]
      by_cases c3 : j < a + k
      · rw [if_pos c3, if_pos (by omega)]
      · rw [if_neg c3, if_neg (show ¬ j - a < k by omega)]
        by_cases c4 : j < a + k + s.length
        · rw [if_pos c4, if_pos (show j - a < k + s.length by omega)]
          congr 1
          omega
        · rw [if_neg c4, if_neg (show ¬ j - a < k + s.length by omega)]
    · rw [if_neg c2, if_neg c2, if_neg (by omega), if_neg (by omega)]
def put1 (p : List UInt8) (i : Nat) : List UInt8 := over p (16 * i) (zs 16)
def put2 (p : List UInt8) (i : Nat) (n : Int) : List UInt8 := setN (put1 p i) (16 * i : Nat) 2 n
def put3 (p : List UInt8) (i : Nat) (n : Int) (k : Nat) : List UInt8 := setN (put2 p i n) ((16 * i : Nat) + 2) 1 k
def put4 (p : List UInt8) (i : Nat) (n : Int) (s : List UInt8) : List UInt8 := setTextN (put3 p i n s.length) ((16 * i : Nat) + 3) s
theorem put1_length {p : List UInt8} (hp : p.length = 64) {i : Nat} (hi : i < 4) : (put1 p i).length = 64 := by
  unfold put1
  rw [over_length _ _ _ (by rw [zs_length]; omega), hp]
theorem put2_length {p : List UInt8} (hp : p.length = 64) {i : Nat} (hi : i < 4) (n : Int) : (put2 p i n).length = 64 := setN_length _ _ _ _ (put1_length hp hi)
theorem put3_length {p : List UInt8} (hp : p.length = 64) {i : Nat} (hi : i < 4) (n : Int) (k : Nat) : (put3 p i n k).length = 64 := setN_length _ _ _ _ (put2_length hp hi n)
theorem put4_length {p : List UInt8} (hp : p.length = 64) {i : Nat} (hi : i < 4) (n : Int) (s : List UInt8) : (put4 p i n s).length = 64 := setTextN_length _ _ _ (put3_length hp hi n _)
theorem over_two (n : Int) : over (zs 16) 0 (bytesN 2 n) = byteAt 1 n :: byteAt 0 n :: zs 14 := rfl
theorem over_three (x y c : UInt8) : over (x :: y :: zs 14) 2 [c] = x :: y :: c :: zs 13 := rfl
theorem over_four (x y c : UInt8) (s : List UInt8) (h : s.length ≤ 13) : over (x :: y :: c :: zs 13) 3 s = x :: y :: c :: (s ++ zs (13 - s.length)) := by
  unfold over
  rw [Nat.add_comm 3 s.length, List.drop_succ_cons, List.drop_succ_cons, List.drop_succ_cons]
  show [x, y, c] ++ (s ++ List.drop s.length (zs 13)) = _
  unfold zs
  rw [List.drop_replicate]
  rfl
theorem put4_eq {p : List UInt8} (hp : p.length = 64) {i : Nat} (hi : i < 4) (n : Int) {s : List UInt8} (hs : s.length ≤ 13) : put4 p i n s = lay p i (slot n s) := by
  have h2 : put2 p i n = over p (16 * i) (byteAt 1 n :: byteAt 0 n :: zs 14) := by
    unfold put2 put1 setN
    rw [if_pos (num_mk (by omega) (by omega) (by omega) (by omega)), Int.toNat_natCast]
    have := over_over p (16 * i) (zs 16) 0 (bytesN 2 n) (by rw [bytesN_length, zs_length]; omega) (by rw [zs_length]; omega)
    rw [over_two, Nat.add_zero] at this
    exact this
  have h3 : put3 p i n s.length = over p (16 * i) (byteAt 1 n :: byteAt 0 n :: byteAt 0 s.length :: zs 13) := by
    unfold put3 setN
    rw [if_pos (num_mk (by omega) (by omega) (by omega) (by omega)), h2]
    have := over_over p (16 * i) (byteAt 1 n :: byteAt 0 n :: zs 14) 2 [byteAt 0 s.length] (by simp [zs_length]) (by simp [zs_length]; omega)
    rw [over_three] at this
    exact this
  unfold put4 setTextN
  rw [if_pos (ins_mk (by omega) (by omega) (by omega)), h3]
  have := over_over p (16 * i) (byteAt 1 n :: byteAt 0 n :: byteAt 0 s.length :: zs 13) 3 s (by simp [zs_length]; omega) (by simp [zs_length]; omega)
  rw [over_four _ _ _ _ hs] at this
  exact this
def ent (b : List UInt8) : Option (Int × List UInt8) :=
  if b = zs 16 then some (0, [])
  else if 13 < (b.getD 2 0).toNat then none
  else if rightB (numOf (b.take 2)) ((b.drop 3).take (b.getD 2 0).toNat) = true ∧ slot (numOf (b.take 2)) ((b.drop 3).take (b.getD 2 0).toNat) = b then some (numOf (b.take 2), (b.drop 3).take (b.getD 2 0).toNat)
  else none
def entN (o : Option (Int × List UInt8)) : Int := (o.getD (0, [])).1
def entS (o : Option (Int × List UInt8)) : List UInt8 := (o.getD (0, [])).2
theorem byteAt0_small (k : Nat) (h : k < 256) : (byteAt 0 (k : Int)).toNat = k := by
  have := byteAt_nat 0 (k : Int)
  rw [Int.pow_zero, Int.ediv_one] at this
  omega
theorem numOf_two (n : Int) (h0 : 0 ≤ n) (h1 : n ≤ 65535) : numOf [byteAt 1 n, byteAt 0 n] = n := by
  have := numOf_bytesN 2 n
  rw [show bytesN 2 n = [byteAt 1 n, byteAt 0 n] from rfl] at this
  rw [this]
  omega
theorem slot_two (n : Int) (s : List UInt8) : (slot n s).getD 2 0 = byteAt 0 s.length := rfl
theorem slot_name (n : Int) {s : List UInt8} (h : s.length ≤ 13) : ((slot n s).drop 3).take (byteAt 0 (s.length : Int)).toNat = s := by
  rw [byteAt0_small _ (by omega)]
  show (s ++ zs (13 - s.length)).take s.length = s
  exact List.take_left' rfl
theorem slot_num (n : Int) (s : List UInt8) : (slot n s).take 2 = [byteAt 1 n, byteAt 0 n] := rfl
theorem ent_slot {n : Int} {s : List UInt8} (h : standB n s = true) : ent (slot n s) = some (n, s) := by
  rcases stand_yes h with ⟨rfl, rfl⟩ | ⟨h1, h2, h3⟩
  · rw [slot_zero]; rfl
  · have hl := chk_len h3
    have hne : slot n s ≠ zs 16 := by
      intro e
      have := slot_num n s
      rw [e] at this
      have h0 := numOf_two n (by omega) h2
      rw [← this] at h0
      have : numOf ((zs 16).take 2) = 0 := by decide
      omega
    unfold ent
    rw [if_neg hne, slot_two, slot_name n hl.2, slot_num, numOf_two n (by omega) h2, byteAt0_small _ (by omega), if_neg (by omega), if_pos ⟨decide_eq_true ⟨h1, h2, h3⟩, rfl⟩]
theorem ent_stand {b : List UInt8} {n : Int} {s : List UInt8} (h : ent b = some (n, s)) : standB n s = true ∧ slot n s = b := by
  unfold ent at h
  split at h
  · injection h with h
    injection h with h1 h2
    subst h1 h2
    exact ⟨rfl, by rw [slot_zero]; exact (by assumption : b = _).symm⟩
  · split at h
    · cases h
    · split at h
      · rename_i h'
        injection h with h
        injection h with h1 h2
        subst h1 h2
        exact ⟨by unfold standB; rw [h'.1, Bool.or_true], h'.2⟩
      · cases h
def num (p : List UInt8) (i : Nat) : Int := getN p (16 * i : Nat) 2
def len (p : List UInt8) (i : Nat) : Int := getN p ((16 * i : Nat) + 2) 1
def name (p : List UInt8) (i : Nat) : List UInt8 := textN p ((16 * i : Nat) + 3) (len p i)
theorem num_at {p : List UInt8} {i : Nat} (hi : i < 4) : num p i = numOf ((at_ p i).take 2) := by
  unfold num getN at_
  rw [if_pos (num_mk (by omega) (by omega) (by omega) (by omega)), Int.toNat_natCast, List.take_take]
  rfl
theorem one_at {p : List UInt8} (hp : p.length = 64) {k : Nat} (hk : k < 64) : numOf ((p.drop k).take 1) = ((p.getD k 0).toNat : Int) := by
  rw [List.drop_eq_getElem_cons (by omega), List.take_succ_cons, List.take_zero, List.getD_eq_getElem?_getD, List.getElem?_eq_getElem (by omega)]
  unfold numOf
  simp
theorem len_at {p : List UInt8} (hp : p.length = 64) {i : Nat} (hi : i < 4) : len p i = (((at_ p i).getD 2 0).toNat : Int) := by
  unfold len getN
  rw [if_pos (num_mk (by omega) (by omega) (by omega) (by omega))]
  have := one_at hp (k := 16 * i + 2) (by omega)
  rw [show (((16 * i : Nat) : Int) + 2).toNat = 16 * i + 2 by omega, show (1 : Int).toNat = 1 from rfl, this, List.getD_eq_getElem?_getD, List.getD_eq_getElem?_getD, at_get, if_pos (by omega)]
theorem len_bd {p : List UInt8} (hp : p.length = 64) {i : Nat} (hi : i < 4) : 0 ≤ len p i ∧ len p i ≤ 255 := by
  rw [len_at hp hi]
  have := ((at_ p i).getD 2 0).toNat_lt
  omega
theorem name_near {p : List UInt8} (hp : p.length = 64) {i : Nat} (hi : i < 4) (h : len p i ≤ 13) : name p i = ((at_ p i).drop 3).take ((at_ p i).getD 2 0).toNat := by
  have hl := len_at hp hi
  unfold name textN
  rw [if_pos (ins_mk (by omega) (by omega) (by omega)), hl]
  apply List.ext_getElem?
  intro j
  rw [List.getElem?_take, List.getElem?_take, Int.toNat_natCast, List.getElem?_drop, List.getElem?_drop, at_get]
  split
  · rw [if_pos (by omega), show (((16 * i : Nat) : Int) + 3).toNat + j = 16 * i + (3 + j) by omega]
  · rfl
theorem name_length {p : List UInt8} (hp : p.length = 64) (i : Nat) : (name p i).length ≤ 64 := by
  unfold name textN
  split
  · simp; omega
  · simp
theorem ent_code {p : List UInt8} (hp : p.length = 64) {i : Nat} (hi : i < 4) :
    ent (at_ p i) = if standB (num p i) (name p i) = true ∧ put4 p i (num p i) (name p i) = p then some (num p i, name p i) else none := by
  have hal := at_length hp hi
  by_cases hs : standB (num p i) (name p i) = true
  · have hb := stand_bd hs
    have hk : put4 p i (num p i) (name p i) = p ↔ slot (num p i) (name p i) = at_ p i := by
      rw [put4_eq hp hi _ hb.2.2, lay_eq hp hi (slot_length _ hb.2.2)]
    by_cases he : slot (num p i) (name p i) = at_ p i
    · rw [if_pos ⟨hs, hk.2 he⟩, ← he]
      exact ent_slot hs
    · rw [if_neg (fun h => he (hk.1 h.2))]
      cases hn : ent (at_ p i) with
      | none => rfl
      | some x =>
        obtain ⟨n, s⟩ := x
        obtain ⟨h1, h2⟩ := ent_stand hn
        exfalso
        apply he
        have hb' := stand_bd h1
        have hl := len_at hp hi
        rw [← h2, slot_two, byteAt0_small _ (by omega)] at hl
        rw [name_near hp hi (by omega), num_at hi, ← h2, slot_two, slot_name n hb'.2.2, slot_num, numOf_two n hb'.1 hb'.2.1]
  · rw [if_neg (fun h => hs h.1)]
    cases hn : ent (at_ p i) with
    | none => rfl
    | some x =>
      obtain ⟨n, s⟩ := x
      obtain ⟨h1, h2⟩ := ent_stand hn
      exfalso
      apply hs
      have hb' := stand_bd h1
      have hl := len_at hp hi
      rw [← h2, slot_two, byteAt0_small _ (by omega)] at hl
      rw [name_near hp hi (by omega), num_at hi, ← h2, slot_two, slot_name n hb'.2.2, slot_num, numOf_two n hb'.1 hb'.2.1]
      exact h1
end Nm

namespace Dm
open List (Perm)
abbrev Ent := Int × List UInt8
abbrev Has := List (List UInt8 × Int)
def used (e : Ent) : Bool := decide (e.1 ≠ 0)
def hits (s : List UInt8) (e : Ent) : Bool := used e && decide (e.2 = s)
def live (E : List Ent) : List Ent := E.filter used
def spot (E : List Ent) (s : List UInt8) : Option Nat := E.findIdx? (hits s)
def room (E : List Ent) : Option Nat := E.findIdx? (fun e => !used e)
def addE (E : List Ent) (n : Int) (s : List UInt8) : List Ent := match room E with
  | some i => E.set i (n, s)
  | none => E ++ [(n, s), (0, []), (0, []), (0, [])]
def swap (e : Ent) : List UInt8 × Int := (e.2, e.1)
def look (H : Has) (s : List UInt8) : Option Int := (H.find? fun e => decide (e.1 = s)).map (·.2)
def putH (H : Has) (s : List UInt8) (n : Int) : Has := if (look H s).isSome then H.map (fun e => if e.1 = s then (s, n) else e) else H ++ [(s, n)]
def delH (H : Has) (s : List UInt8) : Has := H.filter fun e => decide (e.1 ≠ s)
theorem first_split {p : Ent → Bool} {E : List Ent} {i : Nat} (h : E.findIdx? p = some i) : ∃ a e b, E = a ++ e :: b ∧ a.length = i ∧ p e = true ∧ ∀ y ∈ a, p y = false := by
  obtain ⟨hi, h1, h2⟩ := List.findIdx?_eq_some_iff_getElem.1 h
  refine ⟨E.take i, E[i], E.drop (i + 1), ?_, by rw [List.length_take]; omega, h1, ?_⟩
  · rw [← List.drop_eq_getElem_cons hi, List.take_append_drop]
  · intro y hy
    obtain ⟨j, hj, rfl⟩ := List.mem_iff_getElem.1 hy
    rw [List.length_take] at hj
    rw [List.getElem_take]
    have := h2 j (by omega)
    simpa using this
theorem set_mid (a : List Ent) (e x : Ent) (b : List Ent) (i : Nat) (h : a.length = i) : (a ++ e :: b).set i x = a ++ x :: b := by
  subst h
  rw [List.set_append_right _ _ (Nat.le_refl _), Nat.sub_self]
  rfl
theorem live_mid (a : List Ent) (e : Ent) (b : List Ent) : live (a ++ e :: b) = live a ++ ((if used e = true then [e] else []) ++ live b) := by
  unfold live
  rw [List.filter_append, List.filter_cons]
  split
  · rfl
  · rfl
theorem look_none {H : Has} {s : List UInt8} : look H s = none ↔ ∀ e ∈ H, e.1 ≠ s := by
  unfold look
  rw [Option.map_eq_none_iff, List.find?_eq_none]
  simp
theorem look_some {H : Has} (hn : (H.map (·.1)).Nodup) {s : List UInt8} {n : Int} : look H s = some n ↔ (s, n) ∈ H := by
  induction H with
  | nil => simp [look]
  | cons e H ih =>
    rw [List.map_cons, List.nodup_cons] at hn
    have ih := ih hn.2
    unfold look at ih ⊢
    rw [List.find?_cons]
    by_cases he : e.1 = s
    · rw [decide_eq_true he]
      simp only [Option.map_some, List.mem_cons]
      constructor
      · intro h
        injection h with h
        exact Or.inl (by rw [← he, ← h])
      · rintro (h | h)
        · rw [← h]
        · exact absurd (List.mem_map.2 ⟨_, h, he.symm⟩) hn.1
    · rw [decide_eq_false he]
      simp only [List.mem_cons]
      rw [ih]
      constructor
      · exact Or.inr
      · rintro (h | h)
        · exact absurd (by rw [← h]) he
        · exact h
structure Ok (E : List Ent) (H : Has) : Prop where
  four : E.length % 4 = 0
  st : ∀ e ∈ E, Nm.standB e.1 e.2 = true
  same : Perm ((live E).map swap) H
  once : (H.map (·.1)).Nodup
variable {E : List Ent} {H : Has}
theorem Ok.nil : Ok [] [] := ⟨rfl, fun _ h => absurd h (List.not_mem_nil), Perm.nil, List.nodup_nil⟩
theorem Ok.names (h : Ok E H) : ((live E).map (·.2)).Nodup := by
  have := (h.same.map (·.1)).nodup_iff.2 h.once
  rw [List.map_map] at this
  exact this
theorem Ok.count (h : Ok E H) : (live E).length = H.length := by
  have := h.same.length_eq
  rwa [List.length_map] at this
theorem Ok.mem (h : Ok E H) {s : List UInt8} {n : Int} : (s, n) ∈ H ↔ (n, s) ∈ live E := by
  rw [← h.same.mem_iff, List.mem_map]
  constructor
  · rintro ⟨⟨a, b⟩, h1, h2⟩
    injection h2 with h2 h3
    subst h2 h3
    exact h1
  · exact fun h1 => ⟨_, h1, rfl⟩
theorem Ok.all (h : Ok E H) : ∀ e ∈ live E, look H e.2 = some e.1 := fun e he => (look_some h.once).2 (h.mem.2 he)
theorem Ok.spot_none (h : Ok E H) {s : List UInt8} : spot E s = none ↔ look H s = none := by
  unfold spot
  rw [List.findIdx?_eq_none_iff, look_none]
  constructor
  · intro h1 e he e1
    have h2 := h.mem.1 (show (e.1, e.2) ∈ H from he)
    have h3 := List.mem_filter.1 h2
    have := h1 _ h3.1
    unfold hits at this
    rw [h3.2, Bool.true_and, decide_eq_false_iff_not] at this
    exact this e1
  · intro h1 e he
    unfold hits
    by_cases hu : used e = true
    · rw [hu, Bool.true_and, decide_eq_false_iff_not]
      exact h1 (e.2, e.1) (h.mem.2 (List.mem_filter.2 ⟨he, hu⟩))
    · rw [Bool.not_eq_true] at hu
      rw [hu, Bool.false_and]
theorem Ok.spot_some (h : Ok E H) {s : List UInt8} {i : Nat} (hs : spot E s = some i) : ∃ a n b, E = a ++ (n, s) :: b ∧ a.length = i ∧ used (n, s) = true ∧ look H s = some n ∧ (∀ e ∈ live a ++ live b, e.2 ≠ s) := by
  obtain ⟨a, ⟨n, s'⟩, b, h1, h2, h3, _⟩ := first_split hs
  unfold hits at h3
  rw [Bool.and_eq_true] at h3
  obtain ⟨h3, h4⟩ := h3
  obtain rfl : s' = s := of_decide_eq_true h4
  have hl := live_mid a (n, s') b
  rw [if_pos h3] at hl
  refine ⟨a, n, b, h1, h2, h3, h.all (n, s') (by rw [h1, hl]; simp), ?_⟩
  have hn := h.names
  rw [h1, hl, List.map_append, List.map_append, List.nodup_append] at hn
  obtain ⟨_, n2, n3⟩ := hn
  rw [List.map_cons, List.map_nil, List.singleton_append, List.nodup_cons] at n2
  intro e he
  rcases List.mem_append.1 he with he | he
  · exact fun q => n3 e.2 (List.mem_map.2 ⟨e, he, rfl⟩) s' (by simp) q
  · exact fun q => n2.1 (q ▸ List.mem_map.2 ⟨e, he, rfl⟩)
theorem Ok.full (h : Ok E H) (hr : room E = none) : E.length = H.length := by
  rw [← h.count]
  unfold live
  rw [List.filter_eq_self.2]
  intro e he
  unfold room at hr
  have := List.findIdx?_eq_none_iff.1 hr e he
  simpa using this
theorem set_st {a b : List Ent} {e x : Ent} (h : ∀ y ∈ a ++ e :: b, Nm.standB y.1 y.2 = true) (hx : Nm.standB x.1 x.2 = true) : ∀ y ∈ a ++ x :: b, Nm.standB y.1 y.2 = true := by
  intro y hy
  rcases List.mem_append.1 hy with hy | hy
  · exact h y (List.mem_append_left _ hy)
  · rcases List.mem_cons.1 hy with rfl | hy
    · exact hx
    · exact h y (List.mem_append_right _ (List.mem_cons_of_mem _ hy))
theorem put_new {H : Has} {s : List UInt8} (n : Int) (h : look H s = none) : putH H s n = H ++ [(s, n)] := by
  unfold putH
  rw [h]
  rfl
theorem once_new {H : Has} {s : List UInt8} (n : Int) (hn : (H.map (·.1)).Nodup) (h : look H s = none) : ((H ++ [(s, n)]).map (·.1)).Nodup := by
  rw [List.map_append, List.nodup_append]
  refine ⟨hn, by simp, ?_⟩
  intro x hx y hy
  obtain ⟨e, he, rfl⟩ := List.mem_map.1 hx
  simp only [List.map_cons, List.map_nil, List.mem_singleton] at hy
  subst hy
  exact look_none.1 h e he
theorem used_right {n : Int} {s : List UInt8} (h : Nm.rightB n s = true) : used (n, s) = true ∧ Nm.standB n s = true := by
  have := Nm.right_yes h
  refine ⟨decide_eq_true (by show n ≠ 0; omega), ?_⟩
  unfold Nm.standB
  rw [h, Bool.or_true]
theorem Ok.add (h : Ok E H) {n : Int} {s : List UInt8} (hr : Nm.rightB n s = true) (hs : look H s = none) : Ok (addE E n s) (putH H s n) := by
  obtain ⟨hu, hst⟩ := used_right hr
  rw [put_new n hs]
  have hone := once_new n h.once hs
  unfold addE
  cases hm : room E with
  | none =>
    refine ⟨by simp [h.four], ?_, ?_, hone⟩
    · intro e he
      simp only [List.mem_append, List.mem_cons, List.not_mem_nil, or_false] at he
      rcases he with he | rfl | rfl | rfl | rfl
      · exact h.st e he
      · exact hst
      · rfl
      · rfl
      · rfl
    · have : live (E ++ [(n, s), (0, []), (0, []), (0, [])]) = live E ++ [(n, s)] := by
        unfold live
        rw [List.filter_append, List.filter_cons, if_pos hu]
        rfl
      show Perm ((live (E ++ [(n, s), (0, []), (0, []), (0, [])])).map swap) _
      rw [this, List.map_append]
      exact h.same.append_right _
  | some i =>
    obtain ⟨a, e, b, h1, h2, h3, _⟩ := first_split hm
    show Ok (E.set i (n, s)) _
    have hx : used e = false := by simpa using h3
    have hE : E.set i (n, s) = a ++ (n, s) :: b := by rw [h1]; exact set_mid _ _ _ _ _ h2
    refine ⟨by rw [List.length_set]; exact h.four, by rw [hE]; exact set_st (by rw [← h1]; exact h.st) hst, ?_, hone⟩
    have hl0 : live E = live a ++ live b := by
      rw [h1, live_mid, hx]
      rfl
    rw [hE, live_mid, if_pos hu]
    have p1 : Perm (live a ++ ([(n, s)] ++ live b)) ((n, s) :: (live a ++ live b)) := List.perm_middle
    rw [← hl0] at p1
    exact ((p1.map swap).trans (h.same.cons (s, n))).trans (List.perm_append_singleton (s, n) H).symm
theorem Ok.set (h : Ok E H) {n : Int} {s : List UInt8} {i : Nat} (h0 : 1 ≤ n) (h1 : n ≤ 65535) (hs : spot E s = some i) : Ok (E.set i (n, s)) (putH H s n) := by
  obtain ⟨a, m, b, e1, e2, e3, e4, e5⟩ := h.spot_some hs
  have hst0 := h.st (m, s) (by rw [e1]; simp)
  have hck : Nm.chk s = 0 := by
    rcases Nm.stand_yes hst0 with ⟨q, _⟩ | ⟨_, _, q⟩
    · exact absurd q (of_decide_eq_true e3)
    · exact q
  obtain ⟨hu, hst⟩ := used_right (n := n) (s := s) (decide_eq_true ⟨h0, h1, hck⟩)
  have hE : E.set i (n, s) = a ++ (n, s) :: b := by rw [e1]; exact set_mid _ _ _ _ _ e2
  have hp : putH H s n = H.map (fun e => if e.1 = s then (s, n) else e) := by
    unfold putH
    rw [e4]
    rfl
  have hk : (putH H s n).map (·.1) = H.map (·.1) := by
    rw [hp, List.map_map]
    apply List.map_congr_left
    intro e _
    show (if e.1 = s then (s, n) else e).1 = e.1
    split
    · exact (by assumption : e.1 = s).symm
    · rfl
  refine ⟨by rw [List.length_set]; exact h.four, by rw [hE]; exact set_st (by rw [← e1]; exact h.st) hst, ?_, by rw [hk]; exact h.once⟩
  have hf : ∀ l : List Ent, (∀ e ∈ l, e.2 ≠ s) → (l.map swap).map (fun e => if e.1 = s then (s, n) else e) = l.map swap := fun l hl => by
    rw [List.map_map]
    apply List.map_congr_left
    intro e he
    show (if e.2 = s then (s, n) else (e.2, e.1)) = (e.2, e.1)
    rw [if_neg (hl e he)]
  have hs0 := h.same.map (fun e => if e.1 = s then (s, n) else e)
  rw [e1, live_mid, if_pos e3, List.map_append, List.map_append, List.map_append, List.map_append, hf _ (fun e he => e5 e (List.mem_append_left _ he)), hf _ (fun e he => e5 e (List.mem_append_right _ he))] at hs0
  rw [hE, live_mid, if_pos hu, hp, List.map_append, List.map_append]
  have : ([(m, s)].map swap).map (fun e => if e.1 = s then (s, n) else e) = [(n, s)].map swap := by
    show [if s = s then (s, n) else (s, m)] = [(s, n)]
    rw [if_pos rfl]
  rwa [this] at hs0
theorem Ok.rem (h : Ok E H) {s : List UInt8} {i : Nat} (hs : spot E s = some i) : Ok (E.set i (0, [])) (delH H s) := by
  obtain ⟨a, m, b, e1, e2, e3, e4, e5⟩ := h.spot_some hs
  have hE : E.set i (0, []) = a ++ (0, []) :: b := by rw [e1]; exact set_mid _ _ _ _ _ e2
  have hx : used (0, []) = false := rfl
  refine ⟨by rw [List.length_set]; exact h.four, by rw [hE]; exact set_st (by rw [← e1]; exact h.st) rfl, ?_, ?_⟩
  · have hs0 := h.same.filter (fun e => decide (e.1 ≠ s))
    have hf : ∀ l : List Ent, (∀ e ∈ l, e.2 ≠ s) → (l.map swap).filter (fun e => decide (e.1 ≠ s)) = l.map swap := fun l hl => by
      apply List.filter_eq_self.2
      intro e he
      obtain ⟨x, hx, rfl⟩ := List.mem_map.1 he
      exact decide_eq_true (hl x hx)
    rw [e1, live_mid, if_pos e3, List.map_append, List.map_append, List.filter_append, List.filter_append, hf _ (fun e he => e5 e (List.mem_append_left _ he)), hf _ (fun e he => e5 e (List.mem_append_right _ he))] at hs0
    have : ([(m, s)].map swap).filter (fun e => decide (e.1 ≠ s)) = [] := by
      show [(s, m)].filter _ = []
      simp
    rw [this, List.nil_append] at hs0
    rw [hE, live_mid, hx, List.map_append]
    exact hs0
  · unfold delH
    exact List.Sublist.nodup (List.Sublist.map _ (List.filter_sublist)) h.once
end Dm

section
open Go.RowKit Go.Maps
namespace Dm
theorem look_cons (e : List UInt8 × Int) (H : Has) (s : List UInt8) : look (e :: H) s = if e.1 = s then some e.2 else look H s := by
  unfold look
  rw [List.find?_cons]
  by_cases h : e.1 = s
  · rw [decide_eq_true h, if_pos h]; rfl
  · rw [decide_eq_false h, if_neg h]
theorem look_nil (s : List UInt8) : look [] s = none := rfl
theorem look_snoc (H : Has) (s : List UInt8) (n : Int) (t : List UInt8) : look (H ++ [(s, n)]) t = if (look H t).isSome then look H t else if s = t then some n else none := by
  induction H with
  | nil => rw [List.nil_append, look_cons, look_nil]; rfl
  | cons e H ih =>
    rw [List.cons_append, look_cons, look_cons, ih]
    by_cases h : e.1 = t
    · simp only [if_pos h]; rfl
    · simp only [if_neg h]
theorem look_turn (H : Has) (s : List UInt8) (n : Int) (t : List UInt8) : look (H.map fun e => if e.1 = s then (s, n) else e) t = if s = t then (look H t).map (fun _ => n) else look H t := by
  induction H with
  | nil => rw [List.map_nil, look_nil]; split <;> rfl
  | cons e H ih =>
    rw [List.map_cons, look_cons, look_cons, ih]
    by_cases h : e.1 = s
    · rw [if_pos h]
      by_cases h2 : s = t
      · rw [if_pos h2, if_pos (h.trans h2), if_pos h2]; rfl
      · rw [if_neg h2, if_neg h2, if_neg (fun q => h2 (h.symm.trans q)), if_neg h2]
    · rw [if_neg h]
      by_cases h2 : s = t
      · rw [if_neg (fun q => h (q.trans h2.symm)), if_pos h2, if_pos h2, if_neg (fun q => h (q.trans h2.symm))]
      · rw [if_neg h2, if_neg h2]
theorem look_put (H : Has) (s : List UInt8) (n : Int) (t : List UInt8) : look (putH H s n) t = if s = t then some n else look H t := by
  unfold putH
  split
  · rename_i h
    rw [look_turn]
    split
    · rename_i h2
      subst h2
      cases q : look H s with
      | none => rw [q] at h; cases h
      | some m => rfl
    · rfl
  · rename_i h
    rw [look_snoc]
    by_cases h2 : s = t
    · subst h2
      rw [if_neg h, if_pos rfl, if_pos rfl]
    · rw [if_neg h2, if_neg h2]
      split
      · rfl
      · rename_i h3
        cases q : look H t with
        | none => rfl
        | some m => rw [q] at h3; exact absurd rfl h3
theorem put_length (H : Has) (s : List UInt8) (n : Int) : (putH H s n).length = if (look H s).isSome then H.length else H.length + 1 := by
  unfold putH
  split
  · rw [List.length_map]
  · rw [List.length_append]; rfl
theorem put_once {H : Has} (h : (H.map (·.1)).Nodup) (s : List UInt8) (n : Int) : ((putH H s n).map (·.1)).Nodup := by
  by_cases q : look H s = none
  · rw [put_new n q]
    exact once_new n h q
  · have e : putH H s n = H.map (fun e => if e.1 = s then (s, n) else e) := by
      unfold putH
      cases q2 : look H s with
      | none => exact absurd q2 q
      | some m => rfl
    rw [e, List.map_map]
    have : ((fun x : List UInt8 × Int => x.1) ∘ fun e : List UInt8 × Int => if e.1 = s then (s, n) else e) = fun e => e.1 := by
      funext e
      show (if e.1 = s then (s, n) else e).1 = e.1
      split
      · exact (by assumption : e.1 = s).symm
      · rfl
    rw [this]
    exact h
theorem put_mem {H : Has} {s : List UInt8} {n : Int} {e : List UInt8 × Int} (h : e ∈ putH H s n) : e = (s, n) ∨ e ∈ H := by
  unfold putH at h
  split at h
  · obtain ⟨x, hx, rfl⟩ := List.mem_map.1 h
    split
    · exact Or.inl rfl
    · exact Or.inr hx
  · rcases List.mem_append.1 h with h | h
    · exact Or.inr h
    · exact Or.inl (List.mem_singleton.1 h)
theorem look_del (H : Has) (s t : List UInt8) : look (delH H s) t = if s = t then none else look H t := by
  unfold delH
  induction H with
  | nil => rw [List.filter_nil, look_nil]; split <;> rfl
  | cons e H ih =>
    rw [List.filter_cons]
    by_cases h : e.1 = s
    · rw [if_neg (by simp [h]), ih, look_cons]
      by_cases h2 : s = t
      · rw [if_pos h2, if_pos h2]
      · rw [if_neg h2, if_neg h2, if_neg (fun q => h2 (h.symm.trans q))]
    · rw [if_pos (by simp [h]), look_cons, look_cons, ih]
      by_cases h2 : s = t
      · rw [if_pos h2, if_pos h2, if_neg (fun q => h (q.trans h2.symm))]
      · rw [if_neg h2, if_neg h2]
theorem del_length {H : Has} (h : (H.map (·.1)).Nodup) (s : List UInt8) : (delH H s).length + (if (look H s).isSome then 1 else 0) = H.length := by
  unfold delH
  induction H with
  | nil => rfl
  | cons e H ih =>
    rw [List.map_cons, List.nodup_cons] at h
    have ih := ih h.2
    rw [List.filter_cons, look_cons]
    by_cases q : e.1 = s
    · have hn : look H s = none := look_none.2 fun x hx q2 => h.1 (List.mem_map.2 ⟨x, hx, q2.trans q.symm⟩)
      rw [hn] at ih
      rw [if_neg (by simp [q]), if_pos q]
      simp only [Option.isSome_none, Option.isSome_some, if_true, List.length_cons] at ih ⊢
      simp only [Bool.false_eq_true, if_false] at ih
      omega
    · rw [if_pos (by simp [q]), if_neg q]
      simp only [List.length_cons]
      omega
theorem del_once {H : Has} (h : (H.map (·.1)).Nodup) (s : List UInt8) : ((delH H s).map (·.1)).Nodup := List.Sublist.nodup (List.Sublist.map _ List.filter_sublist) h
end Dm
open Dm (Has putH delH)
structure PlainV (P : Program) (et : TypeId) (v : Int → Value) (l : Int → Lit) (ok : Int → Prop) : Prop where
  rd : ∀ n, ok n → plainElem (H := Unit) P et (v n) = some (.lit (l n), [])
  inv : ∀ u n z, plainElem (H := Unit) P et u = some z → z.1 = .lit (l n) → u = v n
  zero : ∀ w, (zeroValue et).run P w = .ok (v 0) w
  ok0 : ok 0
theorem plain_int {P : Program} {et : TypeId} (he : P.underlying et = some (.int .i64)) (hz : ∀ w, (zeroValue et).run P w = .ok (.int .i64 0) w) : PlainV P et (fun n => .int .i64 n) (fun n => .int .i64 n) (fun n => (Lit.int .i64 n).wf = true) where
  rd n h := plainElem_int he h
  inv u n z h1 h2 := by
    obtain ⟨a, rfl, h3, _⟩ := plainElem_int_inv he h1
    rw [h3] at h2
    injection h2 with h2; injection h2 with _ h2
    rw [h2]
  zero := hz
  ok0 := by decide
theorem plain_bool {P : Program} {et : TypeId} (he : P.underlying et = some .bool) (hz : ∀ w, (zeroValue et).run P w = .ok (.bool false) w) : PlainV P et (fun n => .bool (decide (n ≠ 0))) (fun n => .bool (decide (n ≠ 0))) (fun _ => True) where
  rd n _ := plainElem_bool he _
  inv u n z h1 h2 := by
    unfold plainElem at h1
    rw [he] at h1
    cases u <;> simp at h1
    rename_i x
    subst h1
    injection h2 with h2; injection h2 with h2
    rw [h2]
  zero := hz
  ok0 := trivial
structure HasIs (D : DataW Unit) (l : Int → Lit) (ok : Int → Prop) (H : Has) : Prop where
  has : ∀ s : List UInt8, Maps.has D (.string s) = (Dm.look H s).isSome
  held : ∀ s n, Dm.look H s = some n → ∀ z, D.atKey (.string s) z = .lit (l n)
  size : Maps.size D = H.length
  once : (H.map (·.1)).Nodup
  oks : ∀ e ∈ H, ok e.2
def HasAt (P : Program) (kt et : TypeId) (l : Int → Lit) (ok : Int → Prop) (w : World) (b : Nat) (H : Has) : Prop := ∃ D, w.ownsMap P kt (plainElem P et) b (Maps.size D) D ∧ HasIs D l ok H
section
variable {P : Program} {mt kt et : TypeId} {v : Int → Value} {l : Int → Lit} {ok : Int → Prop} {w : World} {b : Nat} {H : Has}
theorem HasAt.block {w' : World} (h : HasAt P kt et l ok w b H) (hb : w'.heap[b]? = w.heap[b]?) : HasAt P kt et l ok w' b H := by
  obtain ⟨D, ⟨es, clock, h1, h2⟩, h3⟩ := h
  exact ⟨D, ⟨es, clock, hb.trans h1, h2⟩, h3⟩
theorem HasAt.lt (h : HasAt P kt et l ok w b H) : b < w.heap.size := by
  obtain ⟨D, h1, _⟩ := h
  exact h1.lt
theorem HasAt.step {w' : World} (h : HasAt P kt et l ok w b H) (hb : Below w.heap.size w w') : HasAt P kt et l ok w' b H := h.block (hb.block b h.lt)
theorem hasTight {n : Nat} {D : DataW Unit} (h : w.ownsMap P kt (plainElem P et) b n D) : w.ownsMap P kt (plainElem P et) b (Maps.size D) D := by
  obtain ⟨es, clock, hb, F, hs, rfl⟩ := h
  exact ⟨es, clock, hb, F, by simp [Maps.size, length_sorted], rfl⟩
theorem has_made (P : Program) (kt et : TypeId) (l : Int → Lit) (ok : Int → Prop) (w : World) : HasAt P kt et l ok (w.alloc (.map #[] 0)) w.heap.size [] := by
  refine ⟨.map [], World.ownsMap_made _ _ _ _, fun s => ?_, fun s n h => ?_, rfl, List.nodup_nil, fun e h => absurd h List.not_mem_nil⟩
  · rw [has_eq]; rfl
  · rw [Dm.look_nil] at h; cases h
theorem HasAt.at1 {D : DataW Unit} (h3 : HasIs D l ok H) (pv : PlainV P et v l ok) {s : List UInt8} {u : Value} {ps : List MemPlace} (hv : plainElem (H := Unit) P et u = some (D.atKey (.string s) (.lit (l 0)), ps)) : u = v ((Dm.look H s).getD 0) := by
  cases q : Dm.look H s with
  | none =>
    have hh : Maps.has D (.string s) = false := by rw [h3.has, q]; rfl
    rw [atKey_of_not_has hh] at hv
    exact pv.inv u 0 _ hv rfl
  | some n =>
    rw [h3.held s n q] at hv
    exact pv.inv u n _ hv rfl
theorem HasAt.look (h : HasAt P kt et l ok w b H) (pv : PlainV P et v l ok) (hk : P.underlying kt = some .string) (hm : P.underlying mt = some (.map kt et)) (s : ByteArray) (hs : s.size ≤ maxLen) :
    (Instr.lookup mt (.map (some b)) (.string s) false).run P w = .ok (v ((Dm.look H s.data.toList).getD 0)) w := by
  obtain ⟨D, h1, h3⟩ := h
  obtain ⟨u, ps, hrun, hv⟩ := h1.lookup (string_keyed hk) hm (pv.zero w) (pv.rd 0 pv.ok0) (WideMaps.keyOf_string_mk hk hs)
  rw [hrun, HasAt.at1 h3 pv hv]
theorem HasAt.lookOk (h : HasAt P kt et l ok w b H) (pv : PlainV P et v l ok) (hk : P.underlying kt = some .string) (hm : P.underlying mt = some (.map kt et)) (s : ByteArray) (hs : s.size ≤ maxLen) :
    (Instr.lookup mt (.map (some b)) (.string s) true).run P w = .ok (.tuple #[v ((Dm.look H s.data.toList).getD 0), .bool (Dm.look H s.data.toList).isSome]) w := by
  obtain ⟨D, h1, h3⟩ := h
  obtain ⟨u, ps, hrun, hv⟩ := h1.look_ok (string_keyed hk) hm (pv.zero w) (pv.rd 0 pv.ok0) (WideMaps.keyOf_string_mk hk hs)
  rw [hrun, HasAt.at1 h3 pv hv, h3.has]
theorem HasAt.len (h : HasAt P kt et l ok w b H) (hm : P.underlying mt = some (.map kt et)) (ty : TypeId) : (Builtin.len_ #[mt] ty #[.map (some b)]).run P w = .ok (.int .i64 (H.length : Int)) w := by
  obtain ⟨D, h1, h3⟩ := h
  rw [h1.len hm, h3.size]
theorem str_ne {s t : List UInt8} (h : ¬ s = t) : (Lit.string t) ≠ Lit.string s := fun q => h (by injection q with q; exact q.symm)
theorem HasAt.store (h : HasAt P kt et l ok w b H) (pv : PlainV P et v l ok) (hk : P.underlying kt = some .string) (hm : P.underlying mt = some (.map kt et)) (s : ByteArray) (hs : s.size ≤ maxLen) (n : Int) (hn : ok n) (hH : H.length < maxLen) :
    ∃ w', (Instr.mapUpdate mt (.map (some b)) (.string s) (v n)).run P w = .ok () w' ∧ HasAt P kt et l ok w' b (putH H s.data.toList n) ∧ w.mapTurned w' b := by
  obtain ⟨D, h1, h3⟩ := h
  obtain ⟨w', hrun, hown, hturn⟩ := h1.store (string_keyed hk) hm (by rw [h3.size]; exact hH) (WideMaps.keyOf_string_mk hk hs) (pv.rd n hn)
  refine ⟨w', hrun, ⟨_, hasTight hown, ?_, ?_, ?_, Dm.put_once h3.once _ _, ?_⟩, hturn⟩
  · intro t
    rw [Dm.look_put]
    by_cases e : s.data.toList = t
    · subst e
      rw [has_put_same (k := .string s.data.toList) h1.isMap trivial, if_pos rfl]; rfl
    · rw [has_put_other (str_ne e), h3.has, if_neg e]
  · intro t m hq z
    rw [Dm.look_put] at hq
    by_cases e : s.data.toList = t
    · subst e
      rw [if_pos rfl] at hq
      injection hq with hq
      rw [atKey_put_same (k := .string s.data.toList) h1.isMap trivial, hq]
    · rw [if_neg e] at hq
      rw [atKey_put_other (str_ne e)]
      exact h3.held t m hq z
  · rw [size_put (h1.tidy (string_keyed hk)), h3.has, h3.size, Dm.put_length]
  · intro e he
    rcases Dm.put_mem he with rfl | he
    · exact hn
    · exact h3.oks e he
theorem HasAt.drop (h : HasAt P kt et l ok w b H) (hk : P.underlying kt = some .string) (hm : P.underlying mt = some (.map kt et)) (s : ByteArray) (hs : s.size ≤ maxLen) (ty : TypeId) :
    ∃ w', (Builtin.delete_ #[mt, kt] ty #[.map (some b), .string s]).run P w = .ok (.tuple #[]) w' ∧ HasAt P kt et l ok w' b (delH H s.data.toList) ∧ w.mapTurned w' b := by
  obtain ⟨D, h1, h3⟩ := h
  obtain ⟨w', hrun, hown, hturn⟩ := h1.drop (string_keyed hk) hm (WideMaps.keyOf_string_mk hk hs) ty
  refine ⟨w', hrun, ⟨_, hasTight hown, ?_, ?_, ?_, Dm.del_once h3.once _, ?_⟩, hturn⟩
  · intro t
    rw [Dm.look_del]
    by_cases e : s.data.toList = t
    · subst e
      rw [has_del_same, if_pos rfl]; rfl
    · rw [has_del_other (str_ne e), h3.has, if_neg e]
  · intro t m hq z
    rw [Dm.look_del] at hq
    by_cases e : s.data.toList = t
    · rw [if_pos e] at hq; cases hq
    · rw [if_neg e] at hq
      rw [atKey_del_other (str_ne e)]
      exact h3.held t m hq z
  · have h4 := size_del (k := .string s.data.toList) (h1.tidy (string_keyed hk))
    rw [h3.has, h3.size] at h4
    have := Dm.del_length h3.once s.data.toList
    omega
  · intro e he
    exact h3.oks e (List.mem_filter.1 he).1
end
end

section
open Go.RowKit Go.Maps
open Dm (Has putH delH)
theorem Only.turn {w w' : World} {b : Nat} (h : w.mapTurned w' b) : Only [b] w w' := Only.grown h.grown (l := [b]) (by simp)
theorem HasAt.only {P : Program} {kt et : TypeId} {l : Int → Lit} {ok : Int → Prop} {w w' : World} {b : Nat} {H : Has} {L : List Nat} (h : HasAt P kt et l ok w b H) (ho : Only L w w') (hb : b ∉ L) : HasAt P kt et l ok w' b H := h.block (ho.block b h.lt hb)
section
variable {mt kt et : TypeId} {v : Int → Value} {l : Int → Lit} {ok : Int → Prop} {w : World} {b : Nat} {H : Has}
  {ops : Array Oper} {rest : List Oper} {o : Oper} {a : Act} {Q : Exit → Act → World → Prop}
theorem wpList_has_store (h : HasAt Tryz.prog kt et l ok w b H) (pv : PlainV Tryz.prog et v l ok) (hk : Tryz.prog.underlying kt = some .string) (hm : Tryz.prog.underlying mt = some (.map kt et)) (s : ByteArray) (hs : s.size ≤ maxLen) (n : Int) (hn : ok n) (hH : H.length < maxLen)
    (hgd : o.guard = none) (m x y : Operand) (hop : o.op = .mapUpdate mt m x y) (hmv : a.eval m = .map (some b)) (hx : a.eval x = .string s) (hv : a.eval y = v n)
    (hK : ∀ w', HasAt Tryz.prog kt et l ok w' b (putH H s.data.toList n) → Only [b] w w' → wpList Tryz.prog ops Q rest (a.put o.dst undef) w') : wpList Tryz.prog ops Q (o :: rest) a w := by
  refine wpList_plain hgd fun K' hK' => ?_
  obtain ⟨w', hrun, r1, r2⟩ := h.store pv hk hm s hs n hn hH
  unfold Oper.wp
  simp [execOp, hop, hmv, hx, hv, hrun, Result.andThen]
  exact hK' _ _ (hK w' r1 (Only.turn r2))
theorem wpList_has_drop (h : HasAt Tryz.prog kt et l ok w b H) (hk : Tryz.prog.underlying kt = some .string) (hm : Tryz.prog.underlying mt = some (.map kt et)) (s : ByteArray) (hs : s.size ≤ maxLen)
    (hgd : o.guard = none) (m x : Operand) (hop : o.op = Op.call { callee := Callee.builtin Builtin.delete, args := #[m, x], argTypes := #[mt, kt] }) (hmv : a.eval m = .map (some b)) (hx : a.eval x = .string s)
    (hK : ∀ w', HasAt Tryz.prog kt et l ok w' b (delH H s.data.toList) → Only [b] w w' → wpList Tryz.prog ops Q rest (a.put o.dst (.tuple #[])) w') : wpList Tryz.prog ops Q (o :: rest) a w := by
  refine wpList_plain hgd fun K' hK' => ?_
  obtain ⟨w', hrun, r1, r2⟩ := h.drop hk hm s hs o.type
  unfold Oper.wp
  simp [execOp, hop, resolve, invoke, builtin, hmv, hx, hrun, Result.andThen]
  exact hK' _ _ (hK w' r1 (Only.turn r2))
theorem wpList_has_ok (h : HasAt Tryz.prog kt et l ok w b H) (pv : PlainV Tryz.prog et v l ok) (hk : Tryz.prog.underlying kt = some .string) (hm : Tryz.prog.underlying mt = some (.map kt et)) (s : ByteArray) (hs : s.size ≤ maxLen)
    (hgd : o.guard = none) (m x : Operand) (hop : o.op = .lookup mt m x true) (hmv : a.eval m = .map (some b)) (hx : a.eval x = .string s)
    (hK : wpList Tryz.prog ops Q rest (a.put o.dst (.tuple #[v ((Dm.look H s.data.toList).getD 0), .bool (Dm.look H s.data.toList).isSome])) w) : wpList Tryz.prog ops Q (o :: rest) a w := by
  refine wpList_plain hgd fun K' hK' => ?_
  have hrun := h.lookOk pv hk hm s hs
  unfold Oper.wp
  simp [execOp, hop, hmv, hx, hrun, Result.andThen]
  exact hK' _ _ hK
theorem wpList_has_none (h : HasAt Tryz.prog kt et l ok w b H) (pv : PlainV Tryz.prog et v l ok) (hk : Tryz.prog.underlying kt = some .string) (hm : Tryz.prog.underlying mt = some (.map kt et)) (s : ByteArray) (hs : s.size ≤ maxLen) (hl : Dm.look H s.data.toList = none)
    (hgd : o.guard = none) (m x : Operand) (hop : o.op = .lookup mt m x true) (hmv : a.eval m = .map (some b)) (hx : a.eval x = .string s)
    (hK : wpList Tryz.prog ops Q rest (a.put o.dst (.tuple #[v 0, .bool false])) w) : wpList Tryz.prog ops Q (o :: rest) a w :=
  wpList_has_ok h pv hk hm s hs hgd m x hop hmv hx (by rw [hl]; exact hK)
theorem wpList_has_some (h : HasAt Tryz.prog kt et l ok w b H) (pv : PlainV Tryz.prog et v l ok) (hk : Tryz.prog.underlying kt = some .string) (hm : Tryz.prog.underlying mt = some (.map kt et)) (s : ByteArray) (hs : s.size ≤ maxLen) (n : Int) (hl : Dm.look H s.data.toList = some n)
    (hgd : o.guard = none) (m x : Operand) (hop : o.op = .lookup mt m x true) (hmv : a.eval m = .map (some b)) (hx : a.eval x = .string s)
    (hK : wpList Tryz.prog ops Q rest (a.put o.dst (.tuple #[v n, .bool true])) w) : wpList Tryz.prog ops Q (o :: rest) a w :=
  wpList_has_ok h pv hk hm s hs hgd m x hop hmv hx (by rw [hl]; exact hK)
end
end

namespace Fs
open Dk (zeros zeros_length)
def flat (P : Nat → List UInt8) (c : Nat) : List UInt8 := (List.range c).flatMap P
def updP (P : Nat → List UInt8) (j : Nat) (q : List UInt8) : Nat → List UInt8 := fun k => if k = j then q else P k
theorem flat_length (P : Nat → List UInt8) : ∀ c, (∀ j, j < c → (P j).length = 64) → (flat P c).length = 64 * c
  | 0, _ => rfl
  | c + 1, h => by
    have ih := flat_length P c (fun j hj => h j (by omega))
    unfold flat at ih ⊢
    rw [List.range_succ, List.flatMap_append, List.length_append, ih]
    simp [h c (by omega)]
    omega
theorem flat_succ (P : Nat → List UInt8) (c : Nat) : flat P (c + 1) = flat P c ++ P c := by
  unfold flat
  rw [List.range_succ, List.flatMap_append]
  simp
theorem flat_at (P : Nat → List UInt8) : ∀ c, (∀ j, j < c → (P j).length = 64) → ∀ j a, j < c → a < 64 → (flat P c)[64 * j + a]? = (P j)[a]?
  | 0, _, j, a, h, _ => by omega
  | c + 1, h, j, a, hj, ha => by
    have hl := flat_length P c (fun j hj => h j (by omega))
    rw [flat_succ]
    by_cases e : j < c
    · rw [List.getElem?_append_left (by omega)]
      exact flat_at P c (fun j hj => h j (by omega)) j a e ha
    · obtain rfl : j = c := by omega
      rw [List.getElem?_append_right (by omega), hl, Nat.add_sub_cancel_left]
theorem flat_ext {F G : List UInt8} {c : Nat} (hF : F.length = 64 * c) (hG : G.length = 64 * c) (h : ∀ j a, j < c → a < 64 → F[64 * j + a]? = G[64 * j + a]?) : F = G := by
  apply List.ext_getElem?
  intro i
  by_cases hi : i < 64 * c
  · have := h (i / 64) (i % 64) (by omega) (by omega)
    rwa [show 64 * (i / 64) + i % 64 = i by omega] at this
  · rw [List.getElem?_eq_none (by omega), List.getElem?_eq_none (by omega)]
theorem updP_length {P : Nat → List UInt8} {j : Nat} {q : List UInt8} {c : Nat} (h : ∀ j, j < c → (P j).length = 64) (hq : q.length = 64) : ∀ k, k < c → (updP P j q k).length = 64 := by
  intro k hk
  unfold updP
  split
  · exact hq
  · exact h k hk
theorem flat_upd {P : Nat → List UInt8} {c : Nat} (h : ∀ j, j < c → (P j).length = 64) (j : Nat) (hj : j < c) (a : Nat) (s : List UInt8) (ha : a + s.length ≤ 64) : flat (updP P j (Pg.over (P j) a s)) c = Pg.over (flat P c) (64 * j + a) s := by
  have hl := flat_length P c h
  have hq : (Pg.over (P j) a s).length = 64 := by rw [Pg.over_length _ _ _ (by rw [h j hj]; exact ha), h j hj]
  refine flat_ext (c := c) (flat_length _ c (updP_length h hq)) (by rw [Pg.over_length _ _ _ (by omega), hl]) (fun k b hk hb => ?_)
  rw [flat_at _ c (updP_length h hq) k b hk hb, Pg.over_at _ _ _ _ (by omega), flat_at P c h k b hk hb]
  unfold updP
  by_cases e : k = j
  · subst e
    rw [if_pos rfl, Pg.over_at _ _ _ _ (by rw [h k hj]; exact ha)]
    by_cases c1 : b < a
    · rw [if_pos c1, if_pos (by omega)]
    · rw [if_neg c1, if_neg (show ¬ 64 * k + b < 64 * k + a by omega)]
      by_cases c2 : b < a + s.length
      · rw [if_pos c2, if_pos (by omega)]
        congr 1
        omega
      · rw [if_neg c2, if_neg (show ¬ 64 * k + b < 64 * k + a + s.length by omega)]
  · rw [if_neg e]
    by_cases c1 : 64 * k + b < 64 * j + a
    · rw [if_pos c1]
    · rw [if_neg c1, if_neg (by omega)]
theorem over_then (F : List UInt8) (a : Nat) (s t : List UInt8) (h : a + s.length + t.length ≤ F.length) : Pg.over (Pg.over F a s) (a + s.length) t = Pg.over F a (s ++ t) := by
  apply List.ext_getElem?
  intro j
  have hl : (Pg.over F a s).length = F.length := Pg.over_length _ _ _ (by omega)
  rw [Pg.over_at _ _ _ _ (by rw [hl]; omega), Pg.over_at _ _ _ _ (by omega), Pg.over_at _ _ _ _ (by rw [List.length_append]; omega), List.length_append]
  by_cases c1 : j < a
  · rw [if_pos (by omega), if_pos c1, if_pos c1]
  · by_cases c2 : j < a + s.length
    · rw [if_pos c2, if_neg c1, if_pos c2, if_neg c1, if_pos (by omega), List.getElem?_append_left (by omega)]
    · rw [if_neg c2, if_neg c1]
      by_cases c3 : j < a + s.length + t.length
      · rw [if_pos c3, if_pos (show j < a + (s.length + t.length) by omega), List.getElem?_append_right (show s.length ≤ j - a by omega), show j - a - s.length = j - (a + s.length) by omega, if_neg c1]
      · rw [if_neg c3, if_neg (show ¬ j < a + (s.length + t.length) by omega)]
        simp [c1, c2]
theorem flat_part {P : Nat → List UInt8} {c : Nat} (h : ∀ j, j < c → (P j).length = 64) (j : Nat) (hj : j < c) (a m : Nat) (ha : a + m ≤ 64) : ((P j).drop a).take m = ((flat P c).drop (64 * j + a)).take m := by
  apply List.ext_getElem?
  intro i
  rw [List.getElem?_take, List.getElem?_take]
  split
  · rw [List.getElem?_drop, List.getElem?_drop, Nat.add_assoc, flat_at P c h j (a + i) hj (by omega)]
  · rfl
theorem take_drop_join (F : List UInt8) (a m k : Nat) : (F.drop a).take m ++ (F.drop (a + m)).take k = (F.drop a).take (m + k) := by
  rw [List.take_add, List.drop_drop]
theorem count_more (p q : Nat → Bool) (j : Nat) (hp : p j = false) (hq : q j = true) (h : ∀ k, k ≠ j → q k = p k) : ∀ N, j < N → (List.range N).countP q = (List.range N).countP p + 1
  | 0, hj => by omega
  | N + 1, hj => by
    rw [List.range_succ, List.countP_append, List.countP_append]
    by_cases e : j < N
    · rw [count_more p q j hp hq h N e]
      have : [N].countP q = [N].countP p := by simp [h N (by omega)]
      omega
    · obtain rfl : j = N := by omega
      have h1 : (List.range j).countP q = (List.range j).countP p := by
        apply List.countP_congr
        intro k hk
        rw [List.mem_range] at hk
        rw [h k (by omega)]
      rw [h1]
      simp [hp, hq]
theorem count_le (p : Nat → Bool) (N : Nat) : (List.range N).countP p ≤ N := by
  have := List.countP_le_length (p := p) (l := List.range N)
  rwa [List.length_range] at this
end Fs
end Go.Proofs.YtmpfcgjjejlhdaaGreat
