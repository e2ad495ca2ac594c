/- Texts of the proof. -/
import Derived.Test.YtncmihikpcdgoaaGreatCap
import Derived.Test.YtncmihikpcdgoaaGreatCac
import Derived.Test.YtncmihikpcdgoaaGreatCao
import Derived.Test.YtncmihikpcdgoaaGreatCam
set_option maxRecDepth 100000
set_option maxHeartbeats 16000000
namespace Go.Proofs.YtncmihikpcdgoaaGreat
section
open Go.RowKit Go.Maps
open Dk (zeros zeros_length)
open Ii (Ino)
open Jn (Chg Cl)
theorem rooted_yes {w : World} {V : Nat} {b : Blk} {s : Sto} {n I k : Int} (h : VolAt w V b s n I k) (v : Vs s n I) (h1 : (Fs.inoAt (nv s) 1).k = 2) (h2 : (Fs.inoAt (nv s) 1).l ≠ 0) : Calls Tryz.prog 64 #[.pointer (some ⟨V, 0, none⟩)] w fun e w' => e = .returned (.int .i64 0) ∧ Below w.heap.size w w' := by
  have HI := Lib.hid (binode_yes h.store v 1 (by decide) v.bd.1)
  have HR := Lib.hid h.row
  generalize Fs.inoAt (nv s) 1 = x at h1 h2 HI
  have g2 : (x.l == 0) = false := by simpa using h2
  have g1 : (x.k != 2) = false := by rw [h1]; rfl
  have g3 : (x.k == 2) = true := by rw [h1]; rfl
  have S0 := Lib.hid (Lo.start (L := []) w (by simp))
  clear h v
  unfold baseV at HI
  go_enter Tryz.func64, Tryz.ntmps64
  go_wp2_with (first
    | (with_reducible refine wpList_load_mid rfl 77 (.tmp 8) rfl V 0 rfl [.pointer (some ⟨b.s, 0, none⟩), .int .i64 n, .int .i64 I] _ HR.out.base Tryz.underlying77 rfl (by kernel_rfl) ?_)
    | (go_at_call 69; refine HI.out.mono ?_; rintro e w1 ⟨rfl, hb⟩; replace S0 := Lib.hid (S0.out.below hb); clear hb)
    | ((with_reducible refine wpList_store_newrow (vs := inoL x) inoT ?_ (inoL_one _) rfl (.tmp 3) (.tmp 11) rfl rfl ?_ ?_ ?_); (exact rfl); (exact rfl); (exact rfl); intro W4 hP hB2 hz2; have S1 := Lib.hid (S0.out.made hP hB2 hz2); clear hP hB2 hz2; have ck := (S1.out.get 0 _ rfl).cell 0 _ rfl; have cl := (S1.out.get 0 _ rfl).cell 3 _ rfl))
  go_ret
  exact ⟨rfl, S1.out.bel⟩
theorem tidyD_any {w : World} {B : Nat} {b : Blk} {s : Sto} {n I : Int} (h : Ctx w B b s n I) (C : Nat) (i : Int) (hC : RowAt w C [.int .i64 i]) : Calls Tryz.prog 105 #[.pointer (some ⟨B, 0, none⟩), .pointer (some ⟨C, 0, none⟩)] w (Cb B b n I [] w s (Fs.releaseM n I i) (fun _ _ => True) (fun _ => True)) := by
  have HC := Lib.hid (srelease_step h i)
  have c0 := hC.cell 0 _ rfl
  go_enter Tryz.func105, Tryz.ntmps105
  go_wp2_with fail
  refine HC.out.mono ?_
  rintro e w3 (⟨a, s', L, E, G, C', rfl, O⟩ | ⟨er, F, h0, Br, rfl, O⟩)
  · go_wp2_with fail
    go_end0
    exact Or.inl ⟨a, s', L, E, G, C', rfl, trivial, O⟩
  · exact ⟨rfl, Or.inr ⟨er, F, h0, Br, rfl, trivial, O⟩⟩
def TdS (w : World) (V : Nat) (b : Blk) (n I : Int) (s : Sto) (C : Nat) (i : Int) (x : Ino) : Option (Bool × Nat) → World → Prop
  | none, W => Lo (V :: b.all) w [(C, [.int .i64 i])] W ∧ VolAt W V b s n I 0
  | some (z, a), W => Lo (V :: b.all) w [(C, [.int .i64 i]), (a, if z = true then inoL x else inoL Ii.zero)] W ∧ VolAt W V b s n I 0
section
variable {w W W' : World} {V : Nat} {b : Blk} {n I : Int} {s : Sto} {C : Nat} {i : Int} {x : Ino}
theorem TdS.below : ∀ {k : Option (Bool × Nat)}, TdS w V b n I s C i x k W → Below W.heap.size W W' → TdS w V b n I s C i x k W'
  | none, h, hb => ⟨h.1.below hb, h.2.below hb⟩
  | some _, h, hb => ⟨h.1.below hb, h.2.below hb⟩
theorem TdS.vol : ∀ {k : Option (Bool × Nat)}, TdS w V b n I s C i x k W → VolAt W V b s n I 0
  | none, h => h.2
  | some _, h => h.2
theorem TdS.cell : ∀ {k : Option (Bool × Nat)}, TdS w V b n I s C i x k W → W.cell? ⟨C, 0, none⟩ = some (.int .i64 i)
  | none, h => (h.1.get 0 _ rfl).cell 0 _ rfl
  | some _, h => (h.1.get 0 _ rfl).cell 0 _ rfl
end
def tidyMs (I : Int) (p : Value) (w : World) : Nat := match p with
  | .pointer (some a) => match w.cell? a with
    | some (.int _ i) => (I + 1 - i).toNat
    | _ => 0
  | _ => 0
structure TidyJ (n I : Int) (J : Nat → Sto → Prop) : Prop where
  vs : ∀ k s, J k s → Vs s n I ∧ s.q < 4294967290
  skip : ∀ k s, J k s → (k : Int) + 1 ≤ I → ((Fs.inoAt (nv s) ((k : Int) + 1)).k = 0 ∨ 0 < (Fs.inoAt (nv s) ((k : Int) + 1)).l) → J (k + 1) s
  step : ∀ k s, J k s → (k : Int) + 1 ≤ I → (Fs.inoAt (nv s) ((k : Int) + 1)).k ≠ 0 → (Fs.inoAt (nv s) ((k : Int) + 1)).l ≤ 0 → ∀ er s2 a, StepTo n I s (Fs.releaseM n I ((k : Int) + 1)) er s2 a → er = 0 ∧ J (k + 1) s2
theorem tidy_rel {w W wr : World} {V : Nat} {b : Blk} {n I : Int} {J : Nat → Sto → Prop} {l : List (Nat × List Value)} {s2 : Sto} {k C : Nat} (S : Lo (V :: b.all) w l W) (HV : VolAt W V b s2 n I 0) (hJ : J (k + 1) s2) (hk : (k : Int) + 1 ≤ I) (hC : wr.cell? ⟨C, 0, none⟩ = some (.int .i64 ((k : Int) + 1))) :
    (∃ (C2 k2 : Nat) (s' : Sto), (k2 : Int) ≤ I ∧ Value.pointer (some ⟨W.heap.size, 0, none⟩) = .pointer (some ⟨C2, 0, none⟩) ∧ Hid (Lo (V :: b.all) w [(C2, [.int .i64 ((k2 : Int) + 1)])] (W.alloc (.cells #[.int .i64 ((k : Int) + 1 + 1)] 3))) ∧ Hid (VolAt (W.alloc (.cells #[.int .i64 ((k : Int) + 1 + 1)] 3)) V b s' n I 0) ∧ Hid (J k2 s')) ∧
    tidyMs I (.pointer (some ⟨W.heap.size, 0, none⟩)) (W.alloc (.cells #[.int .i64 ((k : Int) + 1 + 1)] 3)) < tidyMs I (.pointer (some ⟨C, 0, none⟩)) wr := by
  have S9 := (S.cut 0).alloc W.heap.size rfl [.int .i64 ((k : Int) + 1 + 1)] 3
  have c9 := (S9.get 0 _ rfl).cell 0 _ rfl
  refine ⟨⟨W.heap.size, k + 1, s2, by omega, rfl, Lib.hid (by rw [show ((k + 1 : Nat) : Int) + 1 = (k : Int) + 1 + 1 by omega]; exact S9), Lib.hid (HV.alloc _), Lib.hid hJ⟩, ?_⟩
  have e1 : tidyMs I (.pointer (some ⟨C, 0, none⟩)) wr = (I + 1 - ((k : Int) + 1)).toNat := by unfold tidyMs; simp only [hC]
  have e2 : tidyMs I (.pointer (some ⟨W.heap.size, 0, none⟩)) (W.alloc (.cells #[.int .i64 ((k : Int) + 1 + 1)] 3)) = (I + 1 - ((k : Int) + 1 + 1)).toNat := by
    have : (W.alloc (.cells #[.int .i64 ((k : Int) + 1 + 1)] 3)).cell? ⟨W.heap.size, 0, none⟩ = some (.int .i64 ((k : Int) + 1 + 1)) := c9
    unfold tidyMs; simp only [this]
  rw [e1, e2]
  omega
theorem tidy_any {w : World} {V : Nat} {b : Blk} {s : Sto} {n I : Int} (h : VolAt w V b s n I 0) (J : Nat → Sto → Prop) (hJ : TidyJ n I J) (h0 : J 0 s) : Calls Tryz.prog 65 #[.pointer (some ⟨V, 0, none⟩)] w fun e w' => ∃ s2, J I.toNat s2 ∧ e = .returned (.int .i64 (ssyncE s2)) ∧ VolAt w' V b (ssync s2) n I 0 ∧ Only (V :: b.all) w w' := by
  have hI := (hJ.vs _ _ h0).1.bd
  have hlt := h.row.lt
  have HJ := Lib.hid hJ
  have S0 := Lib.hid ((Lo.start (L := V :: b.all) w (fun k hk => by
    rcases List.mem_cons.1 hk with rfl | hk
    · exact hlt
    · exact h.store.lt k hk)).alloc _ rfl [.int .i64 1] 3)
  have HV0 := Lib.hid (h.alloc (.cells [.int .i64 1].toArray 3))
  have HNB := Lib.hid h.nb
  have HBL : Hid (∀ k ∈ b.all, k < w.heap.size) := Lib.hid (fun k hk => h.store.lt k hk)
  go_enter Tryz.func65, Tryz.ntmps65
  go_wp2_with fail
  go_loopw [3] (fun p wr => ∃ (C k : Nat) (s' : Sto), (k : Int) ≤ I ∧ p = .pointer (some ⟨C, 0, none⟩) ∧ Hid (Lo (V :: b.all) w [(C, [.int .i64 ((k : Int) + 1)])] wr) ∧ Hid (VolAt wr V b s' n I 0) ∧ Hid (J k s')) (fun p wr => tidyMs I p wr)
  case atStart => exact ⟨_, 0, s, by omega, rfl, Lib.hid (by exact S0.out), Lib.hid (by exact HV0.out), Lib.hid h0⟩
  case round =>
    clear S0 HV0 h0 h
    obtain ⟨C, k, s', hk, rfl, S, HV, HJk⟩ := hrel
    have cC := (S.out.get 0 _ rfl).cell 0 _ rfl
    have cI : wr.cell? ⟨V, 2, none⟩ = some (.int .i64 I) := HV.out.row.cell 2 _ rfl
    have HCW := Lib.hid cC
    by_cases hlt2 : (k : Int) + 1 ≤ I
    · go_wp2_with fail
      go_quiet (fail)
      replace S := Lib.hid (S.out.drewN nq)
      replace HV := Lib.hid (HV.out.below (below_drewN _ nq))
      clear cC cI
      generalize World.drewN _ _ = w1 at S HV ⊢
      have HI : Hid (∀ kk W, TdS w V b n I s' C ((k : Int) + 1) (Fs.inoAt (nv s') ((k : Int) + 1)) kk W → Calls Tryz.prog 69 #[.agg #[.pointer (some ⟨b.s, 0, none⟩), .int .i64 n, .int .i64 I], .int .i64 ((k : Int) + 1)] W fun e w' => e = .returned (.tuple #[inoV (Fs.inoAt (nv s') ((k : Int) + 1)), .int .i64 0]) ∧ TdS w V b n I s' C ((k : Int) + 1) (Fs.inoAt (nv s') ((k : Int) + 1)) kk w') := Lib.hid (fun kk W hS => by
        have := binode_yes hS.vol.store (HJ.out.vs _ _ HJk.out).1 ((k : Int) + 1) (by omega) hlt2
        exact this.mono fun e w' hh => ⟨hh.1, hS.below hh.2⟩)
      have HSK := Lib.hid (HJ.out.skip k s' HJk.out hlt2)
      have HST := Lib.hid (HJ.out.step k s' HJk.out hlt2)
      have hvs := (HJ.out.vs _ _ HJk.out)
      generalize Fs.inoAt (nv s') ((k : Int) + 1) = x at HI HSK HST
      go_wp2_with fail
      refine wp_region_linp (TdS w V b n I s' C ((k : Int) + 1) x) (fun _ _ => False) (fun i => i == 9 || i == 10) (fun i => [.pointer (some ⟨V, 0, none⟩), .pointer (some ⟨V, 0, none⟩), .pointer (some ⟨V, 0, none⟩), .agg #[.pointer (some ⟨b.s, 0, none⟩), .int .i64 n, .int .i64 I], .int .i64 ((k : Int) + 1), .tuple #[inoV x, .int .i64 0], .tuple #[inoV x, .int .i64 0], inoV x, .int .i64 0, undef, undef, .int .i64 0].getD i undef) none (by kernel_rfl) (by kernel_rfl) (fun _ _ _ _ h => h.elim) (show TdS w V b n I s' C ((k : Int) + 1) x none _ from TdS.below (k := none) ⟨S.out, HV.out⟩ ((Below.refl _ _).drew)) ?_
      refine linp_step (i := 0) (d := some 18) (v := (.pointer (some ⟨V, 0, none⟩))) rfl rfl (by kernel_rfl) (by kernel_rfl) rfl rfl (ord_value (by kernel_rfl) ?_) ?_
      · ((intro _ _ _; go_simp) <;> kernel_rfl)
      try simp only [Act.put, puA, puB, puC]
      refine linp_step (i := 1) (d := some 19) (v := (.pointer (some ⟨V, 0, none⟩))) rfl rfl (by kernel_rfl) (by kernel_rfl) rfl rfl (ord_value (by kernel_rfl) ?_) ?_
      · ((intro _ _ _; go_simp) <;> kernel_rfl)
      try simp only [Act.put, puA, puB, puC]
      refine linp_step (i := 2) (d := some 20) (v := (.pointer (some ⟨V, 0, none⟩))) rfl rfl (by kernel_rfl) (by kernel_rfl) rfl rfl (ord_value (by kernel_rfl) ?_) ?_
      · ((intro _ _ _; go_simp) <;> kernel_rfl)
      try simp only [Act.put, puA, puB, puC]
      refine linp_step (i := 3) (d := some 21) (v := (.agg #[.pointer (some ⟨b.s, 0, none⟩), .int .i64 n, .int .i64 I])) rfl rfl (by kernel_rfl) (by kernel_rfl) rfl rfl (ord_mid loads_base (by kernel_rfl) (.tmp 20) rfl rfl (fun kk W hS => (TdS.vol hS).row.base)) ?_
      try simp only [Act.put, puA, puB, puC]
      refine linp_step (i := 4) (d := some 22) (v := (.int .i64 ((k : Int) + 1))) rfl rfl (by kernel_rfl) (by kernel_rfl) rfl rfl (ord_value (by kernel_rfl) ?_) ?_
      · (intro sZ wZ hZ; have cZ := (fun kk W hS => TdS.cell hS) sZ wZ hZ; go_simp)
      try simp only [Act.put, puA, puB, puC]
      refine linp_step (i := 5) (d := some 23) (v := (.tuple #[inoV x, .int .i64 0])) rfl rfl (by kernel_rfl) (by kernel_rfl) rfl rfl (ord_call (f := 69) (args := #[.agg #[.pointer (some ⟨b.s, 0, none⟩), .int .i64 n, .int .i64 I], .int .i64 ((k : Int) + 1)]) (by kernel_rfl) ?_ (fun kk W hS => HI.out kk W hS)) ?_
      · (intro _; go_simp)
      try simp only [Act.put, puA, puB, puC]
      refine linp_step (i := 6) (d := some 17) (v := (.tuple #[inoV x, .int .i64 0])) rfl rfl (by kernel_rfl) (by kernel_rfl) rfl rfl (ord_value (by kernel_rfl) ?_) ?_
      · ((intro _ _ _; go_simp) <;> kernel_rfl)
      try simp only [Act.put, puA, puB, puC]
      refine linp_step (i := 7) (d := some 24) (v := (inoV x)) rfl rfl (by kernel_rfl) (by kernel_rfl) rfl rfl (ord_value (by kernel_rfl) ?_) ?_
      · ((intro _ _ _; go_simp) <;> kernel_rfl)
      try simp only [Act.put, puA, puB, puC]
      refine linp_step (i := 8) (d := some 25) (v := (.int .i64 0)) rfl rfl (by kernel_rfl) (by kernel_rfl) rfl rfl (ord_value (by kernel_rfl) ?_) ?_
      · ((intro _ _ _; go_simp) <;> kernel_rfl)
      try simp only [Act.put, puA, puB, puC]
      refine linp_turnD (i := 9) (d := some 4) [10] (fun u kk => ∃ a, u = .pointer (some ⟨a, 0, none⟩) ∧ kk = some (false, a)) rfl rfl (by kernel_rfl) (by kernel_rfl) rfl (by kernel_rfl) ⟨_, _, 0, rfl, rfl⟩ (by kernel_rfl) (fun W hS => ?_) ?_
      · unfold GivesP
        go_simp
        exact ⟨hS.1.alloc W.heap.size rfl (inoL Ii.zero) _, hS.2.alloc _⟩
      rintro _ _ ⟨a, rfl, rfl⟩
      try simp only [Act.put, puA, puB, puC]
      refine linp_turnD (i := 10) (d := none) [] (fun u kk => u = undef ∧ kk = some (true, a)) rfl rfl (by kernel_rfl) (by kernel_rfl) rfl (by kernel_rfl) ⟨_, _, rfl, rfl⟩ (by kernel_rfl) (fun W hS => givesP_of (gives_store_row inoT (hS.1.get 1 _ rfl) rfl rfl (inoL_one x) (.tmp 4) (.tmp 24) rfl rfl rfl ⟨_, ⟨rfl, rfl⟩, hS.1.put 1 _ rfl (inoL x) rfl, ?_⟩)) ?_
      · have hge := (hS.1.row _ (List.mem_cons_of_mem _ (List.mem_cons_self ..))).2.1
        have hge2 : w.heap.size ≤ a := hge
        exact hS.2.only (L := [a]) ((Only.refl [a] W).setCells a (by simp) _ 0 W) (by simp; omega) (fun i hi q => by
          rw [List.mem_singleton] at q
          have := HBL.out i hi
          omega)
      rintro _ _ ⟨rfl, rfl⟩
      try simp only [Act.put, puA, puB, puC]
      refine linp_step (i := 11) (d := some 5) (v := (.int .i64 0)) rfl rfl (by kernel_rfl) (by kernel_rfl) rfl rfl (ord_value (by kernel_rfl) ?_) ?_
      · ((intro _ _ _; go_simp) <;> kernel_rfl)
      try simp only [Act.put, puA, puB, puC]
      refine linp_done (by kernel_rfl) fun W hS => ?_
      clear S HV
      obtain ⟨S1, HV1⟩ := hS
      have S : Hid (Lo (V :: b.all) w [(C, [.int .i64 ((k : Int) + 1)]), (a, inoL x)] W) := Lib.hid S1
      have HV := Lib.hid HV1
      clear S1 HV1 HI
      have ck := (S.out.get 1 _ rfl).cell 0 _ rfl
      have cl := (S.out.get 1 _ rfl).cell 3 _ rfl
      by_cases hx : x.k = 0 ∨ 0 < x.l
      · have HJ2 := Lib.hid (HSK.out hx)
        have cC := (S.out.get 0 _ rfl).cell 0 _ rfl
        have gx : ((x.k == 0) = true) ∨ ((x.k == 0) = false ∧ 0 < x.l) := by
          by_cases q : x.k = 0
          · left; rw [q]; rfl
          · right; exact ⟨by simpa using q, by rcases hx with h | h; exact absurd h q; exact h⟩
        clear hx
        rcases gx with g1 | ⟨g1, g2⟩
        · go_wp2_with fail
          exact tidy_rel S.out HV.out HJ2.out hlt2 HCW.out
        · go_wp2_with fail
          exact tidy_rel S.out HV.out HJ2.out hlt2 HCW.out
      · have g1 : (x.k == 0) = false := by simp only [not_or] at hx; simpa using hx.1
        have g2 : ¬ 0 < x.l := fun q => hx (Or.inr q)
        have g3 : x.l ≤ 0 := by omega
        have HS2 := Lib.hid (HST.out (fun q => hx (Or.inl q)) g3)
        have rC := S.out.get 0 _ rfl
        have hCge := S.out.ge 0 _ rfl
        have HDO := do_any HV.out hvs.1 hvs.2 [] (by simp) (Fs.releaseM n I ((k : Int) + 1)) (fun _ _ => True) (fun _ => True) (fun _ _ _ _ _ _ _ _ => trivial) (fun _ _ _ _ _ _ _ => trivial) 105 #[.pointer (some ⟨C, 0, none⟩)] (fun args W => by simp [go_sem]) (fun B w2 hB hc ho => tidyD_any hc C ((k : Int) + 1) (rC.only ho (by
          have : w.heap.size ≤ C := hCge
          simp; omega)))
        go_wp2_with fail
        refine HDO.mono ?_
        rintro e w3 ⟨hst, hO⟩
        obtain ⟨er, s2, a2, hto, rfl, HV3, _⟩ := hst.to
        obtain ⟨rfl, hJ3⟩ := HS2.out _ _ _ hto
        have S3 := Lib.hid (S.out.call hO (fun i hi => by simpa using hi))
        have cC := (S3.out.get 0 _ rfl).cell 0 _ rfl
        clear ck cl
        go_wp2_with fail
        exact tidy_rel S3.out HV3 hJ3 hlt2 HCW.out
    · go_wp2_with fail
      go_quiet (fail)
      replace S := Lib.hid (S.out.drewN nq)
      replace HV := Lib.hid (HV.out.below (below_drewN _ nq))
      clear cC cI
      generalize World.drewN _ _ = w1 at S HV ⊢
      have hkk : k = I.toNat := by omega
      have hvs := HJ.out.vs _ _ HJk.out
      have HSY := Lib.hid (vsync_any HV.out hvs.1.snd.up hvs.1.snd.q0 hvs.2)
      go_wp2_with (go_at_call 22; (with_reducible refine HSY.out.mono ?_); rintro e w2 ⟨rfl, hv2, ho2⟩)
      go_ret
      exact ⟨s', hkk ▸ HJk.out, rfl, hv2, S.out.only.trans (ho2.mono (fun i hi => List.mem_cons_of_mem _ (by simp only [syncL, Blk.all, List.mem_cons, List.not_mem_nil, or_false] at hi ⊢; rcases hi with h | h | h | h | h <;> simp [h])))⟩
end

section
open Go.RowKit Go.Maps
open Dk (zeros zeros_length)
open Ii (Ino)
open Jn (Chg Cl)
def SGood (w : World) (d l m : Nat) (K : Sto → Prop) (e : Ending) (w' : World) : Prop :=
  ∃ (b : Blk) (s : Sto), b.d = d ∧ b.l = l ∧ b.m = m ∧ w.heap.size ≤ b.s ∧ w.heap.size ≤ b.j ∧ w.heap.size ≤ b.t ∧ w.heap.size ≤ b.g ∧ e = .returned (.tuple #[.pointer (some ⟨b.s, 0, none⟩), .int .i64 0]) ∧ StoreAt w' b s ∧ K s ∧ Only [d, l, m] w w'
def VGood (w : World) (d l m : Nat) (n I : Int) (K : Sto → Prop) (e : Ending) (w' : World) : Prop :=
  ∃ (V : Nat) (b : Blk) (s : Sto), b.d = d ∧ b.l = l ∧ b.m = m ∧ w.heap.size ≤ V ∧ w.heap.size ≤ b.s ∧ w.heap.size ≤ b.j ∧ w.heap.size ≤ b.t ∧ w.heap.size ≤ b.g ∧ e = .returned (.tuple #[.pointer (some ⟨V, 0, none⟩), .int .i64 0]) ∧ VolAt w' V b s n I 0 ∧ K s ∧ Only [d, l, m] w w'
theorem mount_any {w : World} {d l m : Nat} {s : Dk.St} {n I : Int} (h : DiskAt w d l m s) (hc : Cl s) (hn : (s.last.length : Int) = n) (hp : s.last.getD 0 [] = Pl.superP n I) (hpl : Pl.rightB n I = true) (K K2 : Sto → Prop)
    (hO : ∀ W, DiskAt W d l m s → Calls Tryz.prog 62 #[.pointer (some ⟨d, 0, none⟩), .int .i64 1, .int .i64 40] W (SGood W d l m K))
    (hK : ∀ s1, K s1 → Vs s1 n I ∧ (Fs.inoAt (nv s1) 1).k = 2 ∧ (Fs.inoAt (nv s1) 1).l ≠ 0 ∧ ∃ J, TidyJ n I J ∧ J 0 s1 ∧ ∀ s2, J I.toNat s2 → ssyncE s2 = 0 ∧ K2 (ssync s2)) :
    Calls Tryz.prog 24 #[.pointer (some ⟨d, 0, none⟩)] w (VGood w d l m n I K2) := by
  have HDN := Lib.hid (down_any h)
  rw [hc.up] at HDN
  have HLD : Hid (d < w.heap.size ∧ l < w.heap.size ∧ m < w.heap.size) := Lib.hid ⟨h.dlt, h.llt, h.mlt⟩
  have HP : Hid (Calls Tryz.prog 61 #[.pointer (some ⟨d, 0, none⟩)] w fun e w' => e = .returned (.tuple #[.agg #[.int .i64 n, .int .i64 I], .int .i64 0]) ∧ Below w.heap.size w w') := Lib.hid (planOf_yes h hc hn hp hpl)
  have HJN : Hid (∀ W, Calls Tryz.prog 63 #[.agg #[.int .i64 n, .int .i64 I]] W fun e w' => e = .returned (.int .i64 1) ∧ Below W.heap.size W w') := Lib.hid (fun W => by
    have := plJournal_any n I W
    rw [if_pos hpl] at this
    exact this)
  have HO := Lib.hid hO
  have HK := Lib.hid hK
  have HD := Lib.hid h
  clear h hc hn hp hpl hO hK
  have S0 := Lib.hid (Lo.start (L := [d, l, m]) w (by have := HLD.out; simp; omega))
  go_enter Tryz.func24, Tryz.ntmps24
  go_wp2_with (first
    | (go_at_call 60; (with_reducible refine HDN.out.mono ?_); rintro e w1 ⟨rfl, rfl⟩)
    | (go_at_call 61; (with_reducible refine HP.out.mono ?_); rintro e w1 ⟨rfl, hb⟩; have S1 := Lib.hid (S0.out.below hb); have HD1 := Lib.hid (HD.out.below hb); clear hb S0 HD)
    | ((with_reducible refine wpList_store_newrow (vs := [.int .i64 n, .int .i64 I]) planT2 ?_ (planL_one2 n I) rfl (.tmp 4) (.tmp 15) rfl rfl ?_ ?_ ?_); (exact rfl); (exact rfl); (exact rfl); intro W2 hP hB2 hz2; have S2 := Lib.hid (S1.out.made hP hB2 hz2); have HD2 := Lib.hid (HD1.out.below hB2); clear hP hB2 hz2 S1 HD1)
    | (with_reducible refine wpList_load_mid rfl 63 (.tmp 4) rfl _ 0 rfl [.int .i64 n, .int .i64 I] _ (S2.out.get 0 _ rfl).range Tryz.underlying63 rfl (by kernel_rfl) ?_)
    | (go_at_call 63; (with_reducible refine (HJN.out _).mono ?_); rintro e w3 ⟨rfl, hb⟩; replace S2 := Lib.hid (S2.out.below hb); replace HD2 := Lib.hid (HD2.out.below hb); clear hb))
  have hge2 := S2.out.only.size
  refine (HO.out _ HD2.out).mono ?_
  rintro e w4 ⟨b, s1, b1, b2, b3, g1, g2, g3, g4, rfl, hst, hk, ho⟩
  have S4 := Lib.hid (S2.out.call ho (fun k hk => hk))
  have HST := Lib.hid hst
  obtain ⟨hvs, hr1, hr2, J, hJ, hJ0, hJe⟩ := HK.out s1 hk
  clear S2 HD2 hst hk ho HO HK
  go_wp2_with (first
    | (with_reducible refine wpList_load_mid rfl 63 (.tmp 4) rfl _ 0 rfl [.int .i64 n, .int .i64 I] _ (S4.out.get 0 _ rfl).range Tryz.underlying63 rfl (by kernel_rfl) ?_))
  have HV5 : VolAt (w4.alloc (.cells (volL b.s n I 0).toArray 79)) w4.heap.size b s1 n I 0 := ⟨rowAt_new w4 (volL b.s n I 0) _, HST.out.alloc _, fun q => by have := HST.out.lt _ q; omega⟩
  have S5 := Lib.hid (S4.out.below (below_alloc w4 (.cells (volL b.s n I 0).toArray 79)))
  have hV4 := S4.out.only.size
  change Calls _ _ _ (w4.alloc (.cells (volL b.s n I 0).toArray 79)) _
  generalize w4.heap.size = V at HV5 hV4 ⊢
  generalize World.alloc _ _ = w5 at HV5 S5 ⊢
  refine (rooted_yes HV5 hvs hr1 hr2).mono ?_
  rintro e w6 ⟨rfl, hb⟩
  have HV6 := HV5.below hb
  have S6 := Lib.hid (S5.out.below hb)
  clear HV5 S5 hb S4 HST
  go_wp2_with fail
  refine (tidy_any HV6 J hJ hJ0).mono ?_
  rintro e w7 ⟨s2, hJ2, rfl, HV7, ho⟩
  obtain ⟨hE, hK2⟩ := hJe s2 hJ2
  rw [hE]
  go_wp2_with fail
  go_ret2
  refine ⟨V, b, ssync s2, b1, b2, b3, hV4, by omega, by omega, by omega, by omega, rfl, HV7, hK2, S6.out.only.via ho (fun i hi => ?_)⟩
  simp only [Blk.all, List.mem_cons, List.not_mem_nil, or_false] at hi ⊢
  rcases hi with rfl | rfl | rfl | rfl | rfl | rfl | rfl | rfl
  · right; exact hV4
  · right; omega
  · right; omega
  · left; exact Or.inl b1
  · left; exact Or.inr (Or.inl b2)
  · left; exact Or.inr (Or.inr b3)
  · right; omega
  · right; omega
end

section
open Go.RowKit Go.Maps
open Dk (zeros zeros_length)
open Ii (Ino)
open Hd (pageH)
open Jn (Chg Cl Quiet quietH)
structure FmtS (s : Sto) (n I : Int) : Prop where
  st : s = sto0 s.dk 1 40 37 1
  cl : Cl s.dk
  lim : s.dk.lim = false
  len : (s.dk.last.length : Int) = n
  head : s.dk.last.getD 1 [] = pageH (quietH 1)
  pages : ∀ i, i < s.dk.last.length → i ≠ 1 → s.dk.last.getD i [] = fmtP n I i
theorem FmtS.vs {s : Sto} {n I : Int} (h : FmtS s n I) (hpl : Pl.rightB n I = true) : Vs s n I := by
  obtain ⟨h1, h2, h3, h4⟩ := Pl.right_yes hpl
  have hd := Pl.data_bd h1 h2
  have hlen := h.len
  have hok : s.Ok := by
    rw [h.st]
    exact sto0_ok (by decide) (by decide) room40 (by decide) (by decide) (by decide) (by omega)
  exact ⟨⟨hok, by rw [h.st]; rfl, h.cl, by rw [h.st]; show (0 : Int) ≤ 1; decide, by rw [h.st]; exact h.head⟩, by rw [h.st]; rfl, by rw [h.st]; rfl, by rw [h.st]; rfl, h.len, hpl⟩
theorem FmtS.pg {s : Sto} {n I : Int} (h : FmtS s n I) (i : Nat) (hi : (i : Int) < n) (h1 : i ≠ 1) : nv s i = fmtP n I i := by
  have hlen := h.len
  rw [← h.pages i (by omega) h1]
  unfold Go.Proofs.YtncmihikpcdgoaaGreat.nv sheld
  have e1 : s.step = noPgs s.dk.last.length := by rw [h.st]; rfl
  have e2 : s.group = noPgs s.dk.last.length := by rw [h.st]; rfl
  rw [e1, e2, noPgs_at]; rfl
theorem FmtS.q {s : Sto} {n I : Int} (h : FmtS s n I) : s.q = 1 ∧ cntO s.group = 0 := by
  constructor
  · rw [h.st]; rfl
  · have e2 : s.group = noPgs s.dk.last.length := by rw [h.st]; rfl
    rw [e2, cntO_no]
theorem FmtS.sync {s : Sto} {n I : Int} (h : FmtS s n I) : ssyncE s = 0 ∧ ssync s = s := by
  have hup : ¬ s.over = true := by rw [h.st]; simp [sto0]
  constructor
  · unfold ssyncE; rw [if_neg hup, if_pos h.q.2]
  · unfold ssync; rw [if_neg hup, if_pos h.q.2]
theorem root_get : Ii.getI rootP 0 = rootI := by kernel_rfl
theorem root_other : (Ii.getI rootP 32).k = 0 := by decide
theorem zero_get : (Ii.getI zeros 0).k = 0 ∧ (Ii.getI zeros 32).k = 0 := by decide
theorem FmtS.inode {s : Sto} {n I : Int} (h : FmtS s n I) (hpl : Pl.rightB n I = true) (i : Int) (h1 : 1 ≤ i) (h2 : i ≤ I) : Fs.inoAt (nv s) i = if i = 1 then rootI else Ii.zero := by
  obtain ⟨r1, r2, r3, r4⟩ := Pl.right_yes hpl
  have hd := Pl.data_bd r1 r2
  have hdn : Pl.dataN I = 43 + (I + 1) / 2 := rfl
  have ht : Fs.tbl i = 43 + ((i - 1) / 2).toNat := by unfold Fs.tbl; omega
  have hp : nv s (Fs.tbl i) = if (i - 1) / 2 = 0 then rootP else zeros := by
    rw [h.pg (Fs.tbl i) (by rw [ht]; omega) (by rw [ht]; omega)]
    unfold fmtP
    rw [if_neg (by rw [ht]; omega), if_neg (by rw [ht]; omega)]
    by_cases c : (i - 1) / 2 = 0
    · rw [if_pos (by rw [ht]; omega), if_pos c]
    · rw [if_neg (by rw [ht]; omega), if_neg c]
  have hh : Fs.halfAt i = 0 ∨ Fs.halfAt i = 32 := by unfold Fs.halfAt; omega
  unfold Fs.inoAt
  rw [hp]
  by_cases c1 : i = 1
  · subst c1
    have hz0 : ((1 : Int) - 1) / 2 = 0 := by decide
    have e : Fs.halfAt 1 = 0 := by decide
    rw [if_pos hz0, e, root_get, if_neg (show ¬ rootI.k = 0 by decide), if_pos rfl]
  · rw [if_neg c1]
    by_cases c : (i - 1) / 2 = 0
    · rw [if_pos c]
      have e : Fs.halfAt i = 32 := by unfold Fs.halfAt; omega
      rw [e, if_pos root_other]
    · rw [if_neg c]
      rcases hh with e | e <;> rw [e]
      · rw [if_pos zero_get.1]
      · rw [if_pos zero_get.2]
theorem fmt_open {w : World} {d l m : Nat} {s : Dk.St} {n I : Int} (h : DiskAt w d l m s) (hf : Fmt s n I) (hpl : Pl.rightB n I = true) : Calls Tryz.prog 62 #[.pointer (some ⟨d, 0, none⟩), .int .i64 1, .int .i64 40] w (SGood w d l m (fun s1 => FmtS s1 n I)) := by
  obtain ⟨r1, r2, r3, r4⟩ := Pl.right_yes hpl
  have hd := Pl.data_bd r1 r2
  have hlen := hf.len
  have hp1 : s.last.getD 1 [] = zeros := by rw [hf.pages 1 (by omega)]; rfl
  have hq : Quiet 1 40 0 s.last s.last := by
    refine ⟨rfl, ?_, ?_, fun i hi => rfl⟩
    · rw [hp1]; exact ⟨zeros_length, by rw [zeros_front]; exact Int.le_refl _, by rw [zeros_back]; exact Int.le_refl _⟩
    · rw [hp1]; exact zeros_quiet
  have ho := openQ_any (a := 1) (z := 40) (r := 37) h hf.cl hq (Int.le_refl 0) (by omega) (by omega) (by omega) (by omega) room40 (by omega) (by omega)
  have hn : Hd.nextN [s.last.getD 1 []] = 1 := by rw [hp1]; exact zeros_next
  rcases Jn.openQ (a := 1) (z := 40) hf.cl hq (by omega) (by omega) (Int.le_refl 0) (by omega) with ⟨e1, e2, e3, e4, e5⟩ | ⟨_, e, _⟩
  · rw [hn] at ho e1 e2 e4 e5
    have hl2 : (Jn.runs s [[⟨((1 : Nat) : Int), pageH (quietH 1)⟩]]).1.last.length = s.last.length := by rw [e4, List.length_set]
    refine (sopen_any (r := 37) ⟨h.dlt, h.llt, h.mlt⟩ (by rw [hl2]; omega) (by omega) (by omega) room40 (by omega) (by omega) (by decide) ho).mono ?_
    rintro e w' ⟨k1, k2, k3⟩
    rcases k3 with ⟨_, b, cnt, q, b1, b2, b3, b4, b5, b6, b7, k4, ⟨rfl, rfl⟩, k6⟩ | ⟨k4, _⟩
    · refine ⟨b, _, b1, b2, b3, b4, b5, b6, b7, k4, k6, ⟨rfl, e2, ?_, ?_, ?_, ?_⟩, k2⟩
      · exact e5.trans hf.lim
      · show ((Jn.runs s _).1.last.length : Int) = n
        rw [hl2, hlen]
      · show (Jn.runs s _).1.last.getD 1 [] = _
        rw [e4, List.getD_eq_getElem?_getD, List.getElem?_set_self (by omega)]; rfl
      · intro i hi h1
        show (Jn.runs s _).1.last.getD i [] = _
        have hi2 : i < s.last.length := by rw [← hl2]; exact hi
        rw [e4, List.getD_eq_getElem?_getD, List.getElem?_set_ne (fun q => h1 q.symm), ← List.getD_eq_getElem?_getD]
        exact hf.pages i hi2
    · exact absurd e1 k4
  · rw [hf.lim] at e; cases e
theorem fmt_mount {w : World} {d l m : Nat} {s : Dk.St} {n I : Int} (h : DiskAt w d l m s) (hf : Fmt s n I) (hpl : Pl.rightB n I = true) : Calls Tryz.prog 24 #[.pointer (some ⟨d, 0, none⟩)] w (VGood w d l m n I (fun s1 => FmtS s1 n I)) := by
  obtain ⟨r1, r2, r3, r4⟩ := Pl.right_yes hpl
  have hd := Pl.data_bd r1 r2
  have hlen := hf.len
  refine mount_any h hf.cl hf.len (by rw [hf.pages 0 (by omega)]; rfl) hpl (fun s1 => FmtS s1 n I) (fun s1 => FmtS s1 n I) (fun W hW => fmt_open hW hf hpl) (fun s1 h1 => ?_)
  have hi1 := h1.inode hpl 1 (by omega) r1
  rw [if_pos rfl] at hi1
  refine ⟨h1.vs hpl, by rw [hi1]; rfl, by rw [hi1]; decide, fun _ s2 => s2 = s1, ⟨fun k s2 hs => ?_, fun k s2 hs _ _ => hs, fun k s2 hs hk q1 q2 => ?_⟩, rfl, fun s2 hs => ?_⟩
  · subst hs
    exact ⟨h1.vs hpl, by rw [h1.q.1]; decide⟩
  · subst hs
    exfalso
    have hi := h1.inode hpl ((k : Int) + 1) (by omega) hk
    rw [hi] at q1 q2
    by_cases c : (k : Int) + 1 = 1
    · rw [if_pos c] at q2
      exact absurd q2 (by decide)
    · rw [if_neg c] at q1
      exact q1 rfl
  · subst hs
    obtain ⟨e1, e2⟩ := h1.sync
    rw [e2]
    exact ⟨e1, h1⟩
theorem lawFresh_any (w : World) (N : Nat) (I : Int) (hpl : Pl.rightB (N : Int) I = true) : Calls Tryz.prog 9 #[.int .i64 (N : Int), .int .i64 I] w fun e w' => ∃ (V : Nat) (b : Blk) (s : Sto), e = .returned (.tuple #[.pointer (some ⟨V, 0, none⟩), .pointer (some ⟨b.d, 0, none⟩)]) ∧ VolAt w' V b s (N : Int) I 0 ∧ FmtS s (N : Int) I ∧ Below w.heap.size w w' ∧ w.heap.size ≤ V ∧ ∀ k ∈ b.all, w.heap.size ≤ k := by
  obtain ⟨r1, r2, r3, r4⟩ := Pl.right_yes hpl
  have hd := Pl.data_bd r1 r2
  have HN := Lib.hid (new_any N w (by omega) (by omega))
  have HF := Lib.hid (format_new (newWorld_disk w N (by omega) (by omega)) hpl)
  have HBW := Lib.hid (newWorld_below w N)
  have HSZ := Lib.hid (newWorld_size w N)
  go_enter Tryz.func9, Tryz.ntmps9
  go_wp2_with (go_at_call 28; (with_reducible refine HN.out.mono ?_); rintro e w1 ⟨rfl, rfl⟩)
  refine HF.out.mono ?_
  rintro e w2 ⟨rfl, ho2, s, hf, hd2⟩
  have HM := Lib.hid (fmt_mount hd2 hf hpl)
  go_wp2_with fail
  refine HM.out.mono ?_
  rintro e w3 ⟨V, b, s1, b1, b2, b3, g1, g2, g3, g4, g5, rfl, hv, hs, ho3⟩
  go_wp2_with fail
  go_ret2
  have hz := HSZ.out
  have hz2 := ho2.size
  refine ⟨V, b, s1, by rw [b1]; rfl, hv, hs, Only.toBelowOld HBW.out (ho2.trans ho3) (by omega) (by simp), by omega, fun k hk => ?_⟩
  simp only [Blk.all, List.mem_cons, List.not_mem_nil, or_false] at hk
  rcases hk with rfl | rfl | rfl | rfl | rfl | rfl | rfl <;> omega
end

section
open Go.RowKit Go.Maps
open Dk (zeros zeros_length)
open Hd (Head rightB pageH)
open Jn (Chg quietH liveH Cl Quiet LiveD May Same upd)
theorem upd_atF (cs : List Chg) : ∀ (L : List (List UInt8)) (c : Chg), cs.Pairwise (fun x y => x.no < y.no) → (∀ x ∈ cs, 0 ≤ x.no) → c ∈ cs → c.no.toNat < L.length → (upd L cs).getD c.no.toNat [] = c.page := by
  induction cs with
  | nil => intro L c _ _ hc; cases hc
  | cons x r ih =>
    intro L c hp h0 hc hl
    obtain ⟨p1, p2⟩ := List.pairwise_cons.1 hp
    show (upd (L.set x.no.toNat x.page) r).getD c.no.toNat [] = _
    rcases List.mem_cons.1 hc with rfl | hc
    · rw [Jn.upd_other _ _ _ (fun y hy => by have := p1 y hy; have := h0 c (by simp); have := h0 y (by simp [hy]); omega), List.getD_eq_getElem?_getD, List.getElem?_set_self hl]; rfl
    · exact ih _ c p2 (fun y hy => h0 y (by simp [hy])) hc (by rw [List.length_set]; exact hl)
def gv (s : Sto) (i : Nat) : List UInt8 := (s.group.getD i none).getD (s.dk.last.getD i [])
theorem upd_gv (s : Sto) (h : s.Ok) (i : Nat) : (upd s.dk.last (chgs s.group)).getD i [] = gv s i := by
  unfold gv
  cases e : s.group.getD i none with
  | some p =>
    have hm : (⟨(i : Int), p⟩ : Chg) ∈ chgs s.group := chgs_mem.2 ⟨i, rfl, e⟩
    have := upd_atF (chgs s.group) s.dk.last ⟨(i : Int), p⟩ (chgs_pw _) (fun x hx => by obtain ⟨k, hk, _⟩ := chgs_mem.1 hx; omega) hm (by
      show ((i : Int)).toNat < _
      rw [Int.toNat_natCast, ← h.glen]; exact pgs_lt e)
    exact this
  | none =>
    refine Jn.upd_other _ _ _ (fun c hc q => ?_)
    obtain ⟨k, hk, hk2⟩ := chgs_mem.1 hc
    rw [hk, Int.toNat_natCast] at q
    rw [q, e] at hk2
    cases hk2
theorem join_gv {s : Sto} (h : s.Ok) {i : Nat} : gv (sjoin s) i = nv s i := by
  unfold gv nv
  show ((joinP s.group s.step).getD i none).getD (s.dk.last.getD i []) = _
  by_cases hi : i < s.group.length
  · rw [joinP_at _ _ _ hi]; rfl
  · have e1 : (joinP s.group s.step).getD i none = none := by
      rw [List.getD_eq_getElem?_getD, List.getElem?_eq_none (by rw [joinP_length]; omega)]; rfl
    have e2 : sheld s i = none := by
      unfold sheld
      rw [List.getD_eq_getElem?_getD, List.getElem?_eq_none (by rw [h.slen, ← h.glen]; omega), List.getD_eq_getElem?_getD, List.getElem?_eq_none (l := s.group) (by omega)]; rfl
    rw [e1, e2]
def Idle (s : Sto) : Prop := s.step = noPgs s.dk.last.length
theorem idle_nv {s : Sto} (h : Idle s) (i : Nat) : nv s i = gv s i := by
  unfold nv gv sheld
  rw [h, noPgs_at]; rfl
theorem idle_drop {s : Sto} (h : Idle s) : sdrop s = s := by
  unfold sdrop
  rw [← h]
def Out (n : Int) (i : Nat) : Prop := (i : Int) < n ∧ (i = 0 ∨ 41 ≤ i)
theorem vsync_two {s : Sto} {n I : Int} (v : Vs s n I) (hq : s.q < 250) :
    (ssyncE s = 0 ∧ Vs (ssync s) n I ∧ (ssync s).step = s.step ∧ (ssync s).group = noPgs s.dk.last.length ∧ (ssync s).dk.last.length = s.dk.last.length ∧ (∀ i, Out n i → (ssync s).dk.last.getD i [] = gv s i) ∧ (ssync s).q ≤ s.q + 2 ∧ (ssync s).dk.lim = s.dk.lim) ∨
    (ssyncE s = 5 ∧ s.dk.lim = true ∧ (ssync s).over = true ∧ (ssync s).dk.Ok ∧ ∀ keep, Good false 1 40 (s.q + 2) (chgs s.group) s.dk.last (Dk.crash (ssync s).dk keep).last) := by
  rcases sync_two v.snd hq with ⟨e1, e2, e3, e4, e5, e6⟩ | ⟨e1, e2, e3, e4, _, e6⟩
  · left
    obtain ⟨_, g1, _, g3, g4⟩ := ssync_fine v.snd.ok e1
    have ha : (ssync s).a = s.a ∧ (ssync s).z = s.z := by
      unfold ssync
      split
      · exact ⟨rfl, rfl⟩
      · split
        · exact ⟨rfl, rfl⟩
        · split
          · exact ⟨rfl, rfl⟩
          · exact ⟨rfl, rfl⟩
    refine ⟨e1, ⟨e2, ha.1.trans v.a, ha.2.trans v.z, g4.trans v.r, by rw [e4]; exact v.len, v.pl⟩, g3, ?_, e4, fun i hi => ?_, e5, e6⟩
    · have := cntO_zero g1
      rw [e2.ok.glen, e4] at this
      exact this
    · have hi2 := hi.2
      rw [e3 i (by rw [v.a, v.z]; omega), upd_gv s v.snd.ok i]
  · right
    rw [v.a, v.z] at e6
    exact ⟨e1, e2, e3, e4, e6⟩
theorem noPgs_gv {s : Sto} {N : Nat} (h : s.group = noPgs N) (i : Nat) : gv s i = s.dk.last.getD i [] := by
  unfold gv
  rw [h, noPgs_at]; rfl
theorem vkeep_two {s : Sto} {n I : Int} (v : Vs s n I) (hq : s.q < 250) :
    (skeepE s = 0 ∧ Vs (skeep s) n I ∧ Idle (skeep s) ∧ (∀ i, Out n i → gv (skeep s) i = nv s i) ∧ (skeep s).q ≤ s.q + 2 ∧ (skeep s).dk.lim = s.dk.lim ∧ ((skeep s).dk = s.dk ∨ ∀ i, Out n i → (skeep s).dk.last.getD i [] = gv s i)) ∨
    (skeepE s = 5 ∧ s.dk.lim = true ∧ (skeep s).over = true ∧ (skeep s).dk.Ok ∧ ∀ keep, Good false 1 40 (s.q + 2) (chgs s.group) s.dk.last (Dk.crash (skeep s).dk keep).last) := by
  have hup : ¬ s.over = true := by rw [v.snd.up]; simp
  unfold skeepE skeep
  rw [if_neg hup, if_neg hup]
  by_cases hr : s.r < stog s
  · rw [if_pos hr, if_pos hr]
    rcases vsync_two v hq with ⟨e1, e2, e3, e4, e5, e6, e7, e8⟩ | ⟨e1, e2, e3, e4, e5⟩
    · left
      rw [if_pos e1]
      refine ⟨e1, ⟨e2.snd.join (sjoin_sync v.snd.ok e1), e2.a, e2.z, e2.r, e2.len, e2.pl⟩, rfl, fun i hi => ?_, e7, e8, Or.inr e6⟩
      rw [join_gv e2.snd.ok]
      unfold nv
      rw [e6 i hi]
      unfold sheld gv
      rw [e3, e4, noPgs_at]
      cases s.step.getD i none <;> rfl
    · right
      rw [if_neg (by rw [e1]; decide)]
      exact ⟨e1, e2, e3, e4, e5⟩
  · rw [if_neg hr, if_neg hr]
    left
    exact ⟨rfl, ⟨v.snd.join (by omega), v.a, v.z, v.r, v.len, v.pl⟩, rfl, fun i _ => join_gv v.snd.ok, by show s.q ≤ s.q + 2; omega, rfl, Or.inl rfl⟩
structure Calm (s : Sto) (n I : Int) (k : Nat) : Prop where
  vs : Vs s n I
  idle : Idle s
  q : s.q ≤ 1 + 2 * (k : Int)
  lim : s.dk.lim = false
theorem Goes.keeps {s s' : Sto} {L : List Nat} (g : Goes s s' L) : s'.dk = s.dk ∧ s'.group = s.group ∧ s'.q = s.q ∧ s'.over = s.over ∧ s'.r = s.r := by
  rw [g.same]
  exact ⟨rfl, rfl, rfl, rfl, rfl⟩
theorem Calm.step {α : Type} {s : Sto} {n I : Int} {k : Nat} (h : Calm s n I k) (hk : k ≤ 100) {m : Fs.M α} {er : Int} {s2 : Sto} {a : Option α} (ht : StepTo n I s m er s2 a) :
    Calm s2 n I (k + 1) ∧ ((∃ x V L, m (nv s) = (.ok x, V, L) ∧ er = 0 ∧ a = some x ∧ ∀ i, Out n i → nv s2 i = V i) ∨ (Fails s m er ∧ er ≠ 0 ∧ a = none ∧ s2 = s)) := by
  rcases ht with ⟨x, s', L, e, g, v, hz, rfl, rfl, rfl⟩ | ⟨f, h0, rfl, rfl⟩ | ⟨x, s', L, e, g, v, hz, _⟩
  · obtain ⟨g1, g2, g3, g4, g5⟩ := g.keeps
    rcases vkeep_two v (by rw [g3]; have := h.q; omega) with ⟨_, k2, k3, k4, k5, k6, _⟩ | ⟨k1, _⟩
    · refine ⟨⟨k2, k3, by rw [g3] at k5; have := h.q; omega, by rw [k6, g1]; exact h.lim⟩, Or.inl ⟨x, _, L, e, rfl, rfl, fun i hi => ?_⟩⟩
      rw [idle_nv k3]; exact k4 i hi
    · rw [k1] at hz; exact absurd hz (by decide)
  · rw [idle_drop h.idle]
    exact ⟨⟨h.vs, h.idle, by have := h.q; omega, h.lim⟩, Or.inr ⟨f, h0, rfl, rfl⟩⟩
  · obtain ⟨g1, g2, g3, g4, g5⟩ := g.keeps
    rcases vkeep_two v (by rw [g3]; have := h.q; omega) with ⟨k1, _⟩ | ⟨_, k2, _⟩
    · exact absurd k1 hz
    · rw [g1, h.lim] at k2; cases k2
theorem FmtS.calm {s : Sto} {n I : Int} (h : FmtS s n I) (hpl : Pl.rightB n I = true) : Calm s n I 0 :=
  ⟨h.vs hpl, by unfold Idle; rw [h.st]; rfl, by rw [h.q.1]; decide, h.lim⟩
theorem count_or {α : Type} (p q : α → Bool) : ∀ l : List α, l.countP (fun i => p i || q i) ≤ l.countP p + l.countP q
  | [] => by simp
  | x :: r => by
    have := count_or p q r
    rw [List.countP_cons, List.countP_cons, List.countP_cons]
    cases p x <;> cases q x <;> simp <;> omega
theorem count_one (x : Nat) : ∀ N, (List.range N).countP (fun i => i == x) ≤ (if x < N then 1 else 0)
  | 0 => by simp
  | N + 1 => by
    have := count_one x N
    rw [List.range_succ, List.countP_append, List.countP_singleton]
    by_cases c : N = x
    · subst c
      rw [if_neg (by omega)] at this
      simp; omega
    · have e : (N == x) = false := by simpa using c
      rw [e]
      simp only [Bool.false_eq_true, if_false]
      by_cases d : x < N
      · rw [if_pos d] at this; rw [if_pos (show x < N + 1 by omega)]; omega
      · rw [if_neg d] at this; rw [if_neg (show ¬ x < N + 1 by omega)]; omega
theorem count_ins (N : Nat) : ∀ L : List Nat, (List.range N).countP (fun i => L.contains i) ≤ L.length
  | [] => by simp
  | x :: L => by
    have h1 := count_ins N L
    have h2 := count_or (fun i => i == x) (fun i => L.contains i) (List.range N)
    have h3 := count_one x N
    have e : (fun i => (x :: L).contains i) = fun i => (i == x) || L.contains i := by
      funext i
      rw [List.contains_cons]
    rw [e, List.length_cons]
    split at h3 <;> omega
theorem cntU_le (N : Nat) (L : List Nat) : Fs.cntU (noPgs N) L ≤ L.length := by
  unfold Fs.cntU
  have e : (noPgs N).length = N := by unfold noPgs; simp
  rw [e]
  have h1 : (List.range N).countP (fun i => ((noPgs N).getD i none).isSome || L.contains i) = (List.range N).countP (fun i => L.contains i) := by
    congr 1
    funext i
    rw [noPgs_at]; rfl
  rw [h1]
  exact count_ins N L
end

namespace Fs
open Dk (zeros zeros_length)
open Ii (Ino)
def Eqv (n : Int) (V V' : View) : Prop := ∀ i : Nat, 41 ≤ i → (i : Int) < n → V i = V' i
def LocAt {α : Type} (n : Int) (m : M α) (V V' : View) : Prop := Eqv n V V' → (m V).1 = (m V').1 ∧ Eqv n (m V).2.1 (m V').2.1 ∧ (m V).2.2 = (m V').2.2
def Loc {α : Type} (n : Int) (m : M α) : Prop := ∀ V V', LocAt n m V V'
def LocT {α : Type} (n : Int) (f : View → α) : Prop := ∀ V V', Eqv n V V' → f V = f V'
section
variable {α β : Type} {n : Int}
theorem loc_ret (a : α) : Loc n (ret a) := fun _ _ h => ⟨rfl, h, rfl⟩
theorem loc_fail (e : Int) : Loc n (fail e : M α) := fun _ _ h => ⟨rfl, h, rfl⟩
theorem loc_see {f : View → α} (hf : LocT n f) : Loc n (see f) := fun V V' h => ⟨by unfold see; rw [hf V V' h], h, rfl⟩
theorem loc_tell {f : View → Except Int α} (hf : LocT n f) : Loc n (tell f) := fun V V' h => ⟨hf V V' h, h, rfl⟩
theorem loc_wr (i : Nat) (p : List UInt8) : Loc n (wr i p) := fun V V' h => ⟨rfl, fun j h1 h2 => by unfold wr upd; simp only; split; rfl; exact h j h1 h2, rfl⟩
theorem locAt_andThen {m : M α} {f : α → M β} {V V' : View} (hm : LocAt n m V V') (hf : ∀ a, (m V).1 = .ok a → LocAt n (f a) (m V).2.1 (m V').2.1) : LocAt n (andThen m f) V V' := by
  intro h
  obtain ⟨h1, h2, h3⟩ := hm h
  unfold andThen
  rcases e : m V with ⟨r, V1, L1⟩
  rcases e' : m V' with ⟨r', V1', L1'⟩
  rw [e, e'] at h1 h2 h3
  simp only at h1 h2 h3
  subst h1 h3
  cases r with
  | error er => exact ⟨rfl, h2, rfl⟩
  | ok a =>
    have hfa := hf a (by rw [e])
    rw [e, e'] at hfa
    obtain ⟨k1, k2, k3⟩ := hfa h2
    exact ⟨k1, k2, by simp only; rw [k3]⟩
theorem loc_andThen {m : M α} {f : α → M β} (hm : Loc n m) (hf : ∀ a, Loc n (f a)) : Loc n (andThen m f) := fun V V' => locAt_andThen (hm V V') fun a _ => hf a _ _
theorem loc_ite {c : Prop} [Decidable c] {m m' : M α} (h1 : c → Loc n m) (h2 : ¬ c → Loc n m') : Loc n (if c then m else m') := by
  split
  · exact h1 ‹_›
  · exact h2 ‹_›
theorem loc_err {f : View → Except Int α} {g : α → M β} {e : Int} (h : ∀ V, f V = .error e) : Loc n (andThen (tell f) g) := by
  intro V V' hE
  rw [andThen_err (show tell f V = (.error e, V, []) by unfold tell; rw [h]), andThen_err (show tell f V' = (.error e, V', []) by unfold tell; rw [h])]
  exact ⟨rfl, hE, rfl⟩
end
section
variable {n I : Int} (hpl : Pl.rightB n I = true)
include hpl
theorem pl_bd : 1 ≤ I ∧ I ≤ 128 ∧ n ≤ 512 ∧ Pl.dataN I < n ∧ 44 ≤ Pl.dataN I ∧ Pl.dataN I ≤ 107 ∧ Pl.dataN I = 43 + (I + 1) / 2 := by
  obtain ⟨h1, h2, h3, h4⟩ := Pl.right_yes hpl
  have hd := Pl.data_bd h1 h2
  exact ⟨h1, h2, h3, h4, hd.1, hd.2, rfl⟩
theorem tbl_bd {i : Int} (h1 : 1 ≤ i) (h2 : i ≤ I) : 43 ≤ tbl i ∧ (tbl i : Int) < Pl.dataN I := by
  obtain ⟨b1, b2, b3, b4, b5, b6, b7⟩ := pl_bd hpl
  unfold tbl
  omega
theorem loc_ino {i : Int} (h1 : 1 ≤ i) (h2 : i ≤ I) : LocT n (fun V => inoAt V i) := fun V V' h => by
  obtain ⟨b1, b2, b3, b4, b5, b6, b7⟩ := pl_bd hpl
  have ht := tbl_bd hpl h1 h2
  simp only
  unfold inoAt
  rw [h (tbl i) (by omega) (by omega)]
theorem loc_takenF (i : Int) : LocT n (takenF I i) := fun V V' h => by
  unfold takenF
  by_cases c : 1 ≤ i ∧ i ≤ I
  · have := loc_ino hpl c.1 c.2 V V' h
    simp only at this
    rw [if_pos c, if_pos c, this]
  · rw [if_neg c, if_neg c]
theorem loc_least : ∀ (c : Nat) (i : Int), 1 ≤ i → i + c ≤ I + 1 → LocT n (fun V => leastG V c i)
  | 0, _, _, _ => fun _ _ _ => rfl
  | c + 1, i, h1, h2 => fun V V' h => by
    have e := loc_ino hpl h1 (by omega) V V' h
    have r := loc_least c (i + 1) (by omega) (by omega) V V' h
    simp only at e r ⊢
    rw [leastG, leastG, e, r]
theorem loc_setI {i : Int} (h1 : 1 ≤ i) (h2 : i ≤ I) (x : Ino) : Loc n (setI i x) := fun V V' h => by
  obtain ⟨b1, b2, b3, b4, b5, b6, b7⟩ := pl_bd hpl
  have ht := tbl_bd hpl h1 h2
  unfold setI
  rw [← h (tbl i) (by omega) (by omega)]
  split
  · exact loc_ret () V V' h
  · exact loc_wr _ _ V V' h
theorem loc_mark {at1 : Nat} (h1 : 41 ≤ at1) (h2 : at1 ≤ 42) (bit : Int) (on1 : Bool) : Loc n (markM at1 bit on1) := fun V V' h => by
  obtain ⟨b1, b2, b3, b4, b5, b6, b7⟩ := pl_bd hpl
  unfold markM
  rw [← h at1 h1 (by omega)]
  exact loc_wr _ _ V V' h
theorem loc_data (m : Int) : LocT n (dataF n I m) := fun V V' h => by
  obtain ⟨b1, b2, b3, b4, b5, b6, b7⟩ := pl_bd hpl
  unfold dataF
  by_cases c : m = 0
  · rw [if_pos c, if_pos c]
  · rw [if_neg c, if_neg c]
    by_cases d : isData n I m
    · have d2 := d
      unfold isData at d2
      rw [if_pos d, if_pos d, h m.toNat (by omega) (by omega)]
    · rw [if_neg d, if_neg d]
theorem loc_take : Loc n (takeM n I) := by
  obtain ⟨b1, b2, b3, b4, b5, b6, b7⟩ := pl_bd hpl
  unfold takeM
  refine loc_andThen (loc_see fun V V' h => by rw [h 42 (by omega) (by omega)]) fun b => loc_ite (fun _ => loc_fail _) fun _ => ?_
  exact loc_andThen (loc_mark hpl (by omega) (by omega) _ _) fun _ => loc_andThen (loc_wr _ _) fun _ => loc_ret _
theorem loc_goR : ∀ (ks : List Int) (m : Int), Loc n (goR n I ks m)
  | [], m => loc_ret m
  | k :: ks, m => by
    rw [goR]
    refine loc_andThen (loc_tell (loc_data hpl m)) fun p => loc_ite (fun _ => ?_) fun _ => loc_goR ks _
    exact loc_andThen (loc_take hpl) fun t => loc_andThen (loc_wr _ _) fun _ => loc_goR ks t
theorem loc_reach (x : Ino) (i : Int) : Loc n (reachM n I x i) := by
  unfold reachM
  refine loc_ite (fun _ => ?_) fun _ => ?_
  · exact loc_andThen (loc_take hpl) fun m => loc_andThen (loc_goR hpl _ _) fun t => loc_ret _
  · exact loc_andThen (loc_goR hpl _ _) fun t => loc_ret _
theorem loc_wloop : ∀ (cs : List Pc) (x : Ino) (t : List UInt8), Loc n (wloop n I cs x t)
  | [], x, _ => loc_ret x
  | c :: cs, x, t => by
    rw [wloop]
    exact loc_andThen (loc_reach hpl x _) fun z => loc_andThen (loc_tell (loc_data hpl _)) fun p => loc_andThen (loc_wr _ _) fun _ => loc_wloop cs _ _
omit hpl in
theorem loc_right (x : Ino) : Loc n (rightM n I x) := by
  unfold rightM
  exact loc_ite (fun _ => loc_fail _) fun _ => loc_ret _
theorem loc_new (x : Ino) : Loc n (newM n I x) := by
  obtain ⟨b1, b2, b3, b4, b5, b6, b7⟩ := pl_bd hpl
  unfold newM leastM
  refine loc_andThen (loc_right _) fun y => fun V V' => ?_
  refine locAt_andThen (loc_tell (loc_least hpl I.toNat 1 (by omega) (by omega)) V V') fun i hi => ?_
  have hb := least_bd _ _ (show leastG V I.toNat 1 = .ok i from hi)
  exact (loc_andThen (loc_setI hpl (by omega) (by omega) y) fun _ => loc_andThen (loc_mark hpl (by decide) (by decide) _ _) fun _ => loc_ret _) _ _
omit hpl in
theorem taken_out {i : Int} (c : ¬ (1 ≤ i ∧ i ≤ I)) (V : View) : takenF I i V = .error 22 := by unfold takenF; rw [if_neg c]
theorem loc_write (i off : Int) (t : List UInt8) : Loc n (writeM n I i off t) := by
  unfold writeM
  by_cases c : 1 ≤ i ∧ i ≤ I
  · refine loc_andThen (loc_tell (loc_takenF hpl i)) fun x => loc_ite (fun _ => loc_fail _) fun _ => loc_ite (fun _ => loc_ret _) fun _ => loc_ite (fun _ => loc_fail _) fun _ => ?_
    exact loc_andThen (loc_wloop hpl _ _ _) fun y => loc_setI hpl c.1 c.2 y
  · exact loc_err (taken_out c)
theorem loc_free : LocT n (freeV n I) := fun V V' h => by
  obtain ⟨b1, b2, b3, b4, b5, b6, b7⟩ := pl_bd hpl
  unfold freeV
  rw [h 42 (by omega) (by omega)]
theorem loc_spareG : ∀ (c : Nat) (i : Int), 1 ≤ i → i + c ≤ I + 1 → LocT n (fun V => spareG V c i)
  | 0, _, _, _ => fun _ _ _ => rfl
  | c + 1, i, h1, h2 => fun V V' h => by
    have e := loc_ino hpl h1 (by omega) V V' h
    have r := loc_spareG c (i + 1) (by omega) (by omega) V V' h
    simp only at e r ⊢
    rw [spareG, spareG, e, r]
theorem loc_spare : LocT n (spareV I) := fun V V' h => by
  obtain ⟨b1, b2, b3, b4, b5, b6, b7⟩ := pl_bd hpl
  exact loc_spareG hpl I.toNat 1 (by omega) (by omega) V V' h
end
end Fs

section
open Go.RowKit Go.Maps
open Dk (zeros zeros_length)
open Ii (Ino)
def awI : Ino := { k := 1, p := 0, u := 0, l := 1, s := 0, a := 0, b := 0, c := 0, d := 0, e := 0, f := 0 }
def awM : Fs.M Int := Fs.andThen (Fs.newM 60 4 awI) fun i => Fs.andThen (Fs.writeM 60 4 i 2304 [120]) fun _ => Fs.ret i
def awR (r : Fs.Out Int) : Option (Int × Nat × Int) := match r with
  | (.ok a, V, L) => some (a, L.length, Fs.freeV 60 4 V)
  | (.error _, _, _) => none
theorem aw_run : awR (awM (fmtP 60 4)) = some (2, 12, 12) := by kernel_rfl
theorem aw_pl : Pl.rightB 60 4 = true := by decide
theorem aw_free : Fs.freeV 60 4 (fmtP 60 4) = 15 ∧ Fs.spareV 4 (fmtP 60 4) = 3 := by
  constructor <;> kernel_rfl
theorem aw_loc : Fs.Loc 60 awM := by
  unfold awM
  exact Fs.loc_andThen (Fs.loc_new aw_pl _) fun i => Fs.loc_andThen (Fs.loc_write aw_pl _ _ _) fun _ => Fs.loc_ret _
theorem FmtS.eqv {s : Sto} {n I : Int} (h : FmtS s n I) : Fs.Eqv n (nv s) (fmtP n I) := fun i h1 h2 => h.pg i h2 (by omega)
theorem aw_step {s : Sto} (h : FmtS s 60 4) {er : Int} {s2 : Sto} {a : Option Int} (ht : StepTo 60 4 s awM er s2 a) : er = 0 ∧ a = some 2 ∧ Calm s2 60 4 1 ∧ Fs.freeV 60 4 (nv s2) = 12 := by
  have hc := h.calm aw_pl
  obtain ⟨c2, hr⟩ := hc.step (by decide) ht
  have hl := aw_loc (nv s) (fmtP 60 4) h.eqv
  have hrun := aw_run
  rcases hm : awM (fmtP 60 4) with ⟨r, V, L⟩
  rw [hm] at hl hrun
  cases r with
  | error e => simp [awR] at hrun
  | ok b =>
    unfold awR at hrun
    simp only [Option.some.injEq, Prod.mk.injEq] at hrun
    obtain ⟨rfl, hL, hF⟩ := hrun
    rcases hr with ⟨x, V2, L2, e, rfl, rfl, hv⟩ | ⟨hf, h0, _, _⟩
    · rw [e] at hl
      obtain ⟨k1, k2, _⟩ := hl
      simp only [Except.ok.injEq] at k1
      subst k1
      refine ⟨rfl, rfl, c2, ?_⟩
      rw [← hF]
      exact Fs.loc_free aw_pl _ _ (fun i h1 h2 => (hv i ⟨h2, Or.inr h1⟩).trans (k2 i h1 h2))
    · exfalso
      rcases hf with ⟨V2, L2, e⟩ | ⟨_, hf⟩
      · rw [e] at hl
        cases hl.1
      · have := cntU_le s.dk.last.length (awM (nv s)).2.2
        rw [hl.2.2] at this hf
        rw [hc.idle, hc.vs.r] at hf
        have hL2 : L.length = 12 := hL
        simp only at this hf
        omega
theorem awD_any {w : World} {B : Nat} {b : Blk} {s : Sto} (h : Ctx w B b s 60 4) (X : Nat) (hX : RowAt w X [.int .i64 0]) (hXB : X ≠ B) (hXt : X ∉ b.all) :
    Calls Tryz.prog 35 #[.pointer (some ⟨B, 0, none⟩), .pointer (some ⟨X, 0, none⟩)] w (Cb B b 60 4 [X] w s awM (fun a w' => RowAt w' X [.int .i64 a]) (fun w' => ∃ a, RowAt w' X [.int .i64 a])) := by
  have hXt' : X ≠ b.t := fun q => hXt (q ▸ b.t_mem)
  have HN : Hid (Calls Tryz.prog 14 #[.pointer (some ⟨B, 0, none⟩), .agg #[.int .i64 1, .int .i64 0, .int .i64 0, .int .i64 1, .int .i64 0, .int .i64 0, .int .i64 0, .int .i64 0, .int .i64 0, .int .i64 0, .int .i64 0]] w (Ends B b 60 4 [] w s (Fs.newM 60 4 awI) fun i e _ => e = .returned (.int .i64 i))) := Lib.hid (snew_step h awI)
  have HW : Hid (∀ W s' i, Ctx W B b s' 60 4 → Calls Tryz.prog 17 #[.pointer (some ⟨B, 0, none⟩), .int .i64 i, .int .i64 2304, .string ⟨#[120]⟩] W (Ends B b 60 4 [] W s' (Fs.writeM 60 4 i 2304 [120]) fun _ e _ => e = .returned (.tuple #[]))) := Lib.hid (fun W s' i hc => swrite_step hc i 2304 [120] (by decide))
  have HX := Lib.hid hX
  clear h hX
  unfold awM
  go_enter Tryz.func35, Tryz.ntmps35
  go_wp2_with fail
  refine HN.out.mono ?_
  rintro e w3 (⟨a, s', L, E, G, C, rfl, O⟩ | ⟨er, F, h0, Br, rfl, O⟩)
  · have k1 : RowAt w3 X [.int .i64 0] := HX.out.only O (by simpa using hXt')
    have ff := k1.frozen 0 (show 0 < 1 by decide)
    have cc := k1.cell 0 _ rfl
    have k2 : RowAt (w3.setCell ⟨X, 0, none⟩ (.int .i64 a)) X [.int .i64 a] := RowAt.setOne k1 0 (.int .i64 a) (show 0 < 1 by decide)
    have O2 : Only [X] w3 (w3.setCell ⟨X, 0, none⟩ (.int .i64 a)) := (Only.refl _ w3).setCell (p := ⟨X, 0, none⟩) (by simp) _
    have C2 := C.only O2 (by simpa using fun q => hXB q.symm) (fun i hi q => by rw [List.mem_singleton] at q; subst q; exact hXt hi)
    go_wp2_with fail
    have O3 : Only [b.t, X] w (w3.setCell ⟨X, 0, none⟩ (.int .i64 a)) := (O.mono (by simp)).trans (O2.mono (by simp))
    generalize World.setCell _ _ _ = w4 at k2 O2 O3 C2 ⊢
    refine (HW.out w4 s' a C2).mono ?_
    rintro e w5 (⟨_, s2, L2, E2, G2, C3, rfl, O4⟩ | ⟨er, F, h0, Br, rfl, O4⟩)
    · go_wp2_with fail
      go_end0
      refine Or.inl ⟨a, s2, L ++ (L2 ++ []), by rw [Fs.andThen_ok E, Fs.andThen_ok E2]; rfl, by rw [List.append_nil]; exact G.trans G2, C3, rfl, k2.only O4 (by simpa using hXt'), O3.trans (O4.mono (by simp))⟩
    · refine ⟨rfl, Or.inr ⟨er, (F.bind).next E G, h0, Br.goes G, rfl, ⟨a, k2.only O4 (by simp; exact ⟨hXB, hXt'⟩)⟩, ?_⟩⟩
      exact (O3.mono (by simp)).trans (O4.mono (by simp))
  · refine ⟨rfl, Or.inr ⟨er, F.bind, h0, Br, rfl, ⟨0, HX.out.only O (by simp; exact ⟨hXB, hXt'⟩)⟩, O.mono (fun k hk => by simp only [List.mem_cons, List.not_mem_nil, or_false] at hk ⊢; rcases hk with rfl | rfl <;> simp)⟩⟩
end

section
open Go.RowKit Go.Maps
open Dk (zeros zeros_length)
open Ii (Ino)
theorem stable_ex (X : Nat) (N : Nat) : Stable [X] N (fun w => ∃ a, RowAt w X [.int .i64 a]) := fun w w' L h ho hk hN => by
  obtain ⟨a, h⟩ := h
  exact ⟨a, h.only ho (fun q => hk X q (by simp))⟩
theorem fawake_any (w : World) : Calls Tryz.prog 7 #[] w fun e w' => e = .returned (.bool true) ∧ Below w.heap.size w w' := by
  have hmf : ∀ (fn : Fn) (first cap : Array Value) (w : World), (Instr.makeFunc fn first cap).run Tryz.prog w = .ok (.func fn first cap) w := fun _ _ _ _ => rfl
  have HF : Hid (Calls Tryz.prog 9 #[.int .i64 60, .int .i64 4] w fun e w' => ∃ (V : Nat) (b : Blk) (s : Sto), e = .returned (.tuple #[.pointer (some ⟨V, 0, none⟩), .pointer (some ⟨b.d, 0, none⟩)]) ∧ VolAt w' V b s 60 4 0 ∧ FmtS s 60 4 ∧ Below w.heap.size w w' ∧ w.heap.size ≤ V ∧ ∀ k ∈ b.all, w.heap.size ≤ k) := Lib.hid (lawFresh_any w 60 4 aw_pl)
  go_enter Tryz.func7, Tryz.ntmps7
  go_wp2_with fail
  refine HF.out.mono ?_
  rintro e w1 ⟨V, b, s, rfl, hv, hs, hb1, hV1, hbb⟩
  have hvs := hs.vs aw_pl
  have HV := Lib.hid hv
  have HFR : Hid (Calls Tryz.prog 25 #[.pointer (some ⟨V, 0, none⟩)] w1 fun e w' => e = .returned (.int .i64 15) ∧ Below w1.heap.size w1 w') := Lib.hid (by
    have := vfree_any hv hvs
    rw [Fs.loc_free aw_pl _ _ hs.eqv, aw_free.1] at this
    exact this)
  have HSP : Hid (∀ W, Below w1.heap.size w1 W → Calls Tryz.prog 29 #[.pointer (some ⟨V, 0, none⟩)] W fun e w' => e = .returned (.int .i64 3) ∧ Below W.heap.size W w') := Lib.hid (fun W hb => by
    have := vspare_any (hv.below hb) hvs
    rw [Fs.loc_spare aw_pl _ _ hs.eqv, aw_free.2] at this
    exact this)
  have hlt := hv.row.lt
  clear hv
  go_wp2_with (first
    | (go_at_call 25; (with_reducible refine HFR.out.mono ?_); rintro e w2 ⟨rfl, hb2⟩)
    | (go_at_call 29; (with_reducible refine (HSP.out _ hb2).mono ?_); rintro e w3 ⟨rfl, hb3⟩))
  have hb4 := hb2.trans (hb3.mono hb2.size)
  have HV4 := (HV.out.below hb4).alloc (.cells #[.int .i64 0] 3)
  have S := (Lo.start (L := []) w3 (by simp)).alloc _ rfl [.int .i64 0] 3
  have rX : RowAt (w3.alloc (.cells #[.int .i64 0] 3)) w3.heap.size [.int .i64 0] := S.get 0 _ rfl
  have hs3 : (w3.alloc (.cells #[.int .i64 0] 3)).heap.size = w3.heap.size + 1 := by simp
  have hb5 : Below w1.heap.size w1 (w3.alloc (.cells #[.int .i64 0] 3)) := hb4.alloc hb4.size _
  have hw3 := hb4.size
  generalize World.alloc _ _ = w4 at HV4 rX hs3 hb5 ⊢
  have hbx : ∀ k ∈ b.all, k < w3.heap.size := fun k hk => Nat.lt_of_lt_of_le (HV.out.store.lt k hk) hw3
  have HD := do_any HV4 hvs (by rw [hs.q.1]; decide) [w3.heap.size] (fun k hk => by rw [List.mem_singleton] at hk; subst hk; exact ⟨by omega, by omega, fun q => by have := hbx _ q; omega⟩) awM (fun a w' => RowAt w' w3.heap.size [.int .i64 a]) (fun w' => ∃ a, RowAt w' w3.heap.size [.int .i64 a])
    (fun a => stable_row _ _ _ (by omega)) (stable_ex _ _) 35 #[.pointer (some ⟨w3.heap.size, 0, none⟩)] (fun args W => by simp [go_sem]) (fun B w5 hB hc ho => by
      exact awD_any hc w3.heap.size (rX.only ho (by simp; omega)) (by omega) (fun q => by have := hbx _ q; omega))
  refine HD.mono ?_
  rintro e w5 ⟨hst, hO⟩
  obtain ⟨er, s2, a, hto, rfl, HV5, hPa⟩ := hst.to
  obtain ⟨rfl, rfl, hc2, hfr⟩ := aw_step hs hto
  have hr : RowAt w5 w3.heap.size [.int .i64 2] := hPa
  have cc := hr.cell 0 _ rfl
  have HF2 : Hid (Calls Tryz.prog 25 #[.pointer (some ⟨V, 0, none⟩)] w5 fun e w' => e = .returned (.int .i64 12) ∧ Below w5.heap.size w5 w') := Lib.hid (by
    have := vfree_any HV5 hc2.vs
    rw [hfr] at this
    exact this)
  go_wp2_with (go_at_call 25; (with_reducible refine HF2.out.mono ?_); rintro e w6 ⟨rfl, hb6⟩)
  go_ret
  have hsz := hb1.size
  have hb7 : Below w.heap.size w w5 := Only.toBelowOld (hb1.trans (hb5.mono hsz)) hO (by have := hb5.size; omega) (fun k hk => by
    simp only [List.mem_cons, List.mem_append, List.not_mem_nil, or_false] at hk
    rcases hk with rfl | hk | rfl
    · exact hV1
    · exact hbb k hk
    · omega)
  exact ⟨rfl, hb7.trans (hb6.mono hb7.size)⟩
end

section
open Go.ChangeShapes Go.WideShapes Go.ChangeAt Go.RowKit
open Dk (zeros zeros_length)
open Ii (Ino)
theorem ino_cells {H : Type} {enc : TypeId × Value → H} {W : World} {fuel : Nat} {base : Nat} {spare : Nat → Bool} {held : Bool} {cs : List Value} {z : DataW H × List MemPlace} (ht : DataW.trod enc Tryz.prog W base spare held fuel 31 cs = some z) :
    ∃ x : Ino, cs = inoL x := by
  obtain ⟨xs, n, _, rfl, hcl, hlen, hf⟩ := DataW.trod_struct Tryz.underlying31 ht
  have hC : Tryz.prog.cellsOf 31 = 11 := by kernel_rfl
  have hA : Tryz.prog.cellsOf 29 = 4 := by kernel_rfl
  rw [hC] at hcl
  match xs, hlen with
  | [y0, y1, y2, y3, y4, y5, y6, y7], _ =>
    obtain ⟨k, e0, _, _⟩ := DataW.trod_int Tryz.underlying3 (hf 0 _ rfl)
    obtain ⟨p, e1, _, _⟩ := DataW.trod_int Tryz.underlying3 (hf 1 _ rfl)
    obtain ⟨u, e2, _, _⟩ := DataW.trod_int Tryz.underlying3 (hf 2 _ rfl)
    obtain ⟨l, e3, _, _⟩ := DataW.trod_int Tryz.underlying3 (hf 3 _ rfl)
    obtain ⟨s, e4, _, _⟩ := DataW.trod_int Tryz.underlying3 (hf 4 _ rfl)
    obtain ⟨e, e9, _, _⟩ := DataW.trod_int Tryz.underlying3 (hf 6 _ rfl)
    obtain ⟨f, e10, _, _⟩ := DataW.trod_int Tryz.underlying3 (hf 7 _ rfl)
    obtain ⟨zs, mm, _, _, hal, hxl, hx⟩ := DataW.trod_array Tryz.underlying29 (hf 5 _ rfl)
    have four : ∀ j, j < 4 → ∃ v : Int, ((((cs.drop 5).take 4).drop j).take 1) = [.int .i64 v] := fun j hj => by
      have hx' := hx j (by omega)
      rw [cellsI, Nat.mul_one] at hx'
      have hs : zs[j]? = some (zs[j]'(by omega)) := List.getElem?_eq_getElem (by omega)
      obtain ⟨v, hv, _, _⟩ := DataW.trod_int Tryz.underlying3 (hx'.trans hs)
      exact ⟨v, hv⟩
    obtain ⟨a, e5⟩ := four 0 (by omega)
    obtain ⟨b, e6⟩ := four 1 (by omega)
    obtain ⟨c, e7⟩ := four 2 (by omega)
    obtain ⟨d, e8⟩ := four 3 (by omega)
    have c0 : (cs.drop 0).take (Tryz.prog.cellsOf 3) = [.int .i64 k] := e0
    have c1 : (cs.drop 1).take (Tryz.prog.cellsOf 3) = [.int .i64 p] := e1
    have c2 : (cs.drop 2).take (Tryz.prog.cellsOf 3) = [.int .i64 u] := e2
    have c3 : (cs.drop 3).take (Tryz.prog.cellsOf 3) = [.int .i64 l] := e3
    have c4 : (cs.drop 4).take (Tryz.prog.cellsOf 3) = [.int .i64 s] := e4
    have c9 : (cs.drop 9).take (Tryz.prog.cellsOf 3) = [.int .i64 e] := e9
    have c10 : (cs.drop 10).take (Tryz.prog.cellsOf 3) = [.int .i64 f] := e10
    rw [cellsI] at c0 c1 c2 c3 c4 c9 c10
    refine ⟨⟨k, p, u, l, s, a, b, c, d, e, f⟩, ?_⟩
    match cs, hcl with
    | [v0, v1, v2, v3, v4, v5, v6, v7, v8, v9, v10], _ =>
      simp at c0 c1 c2 c3 c4 e5 e6 e7 e8 c9 c10
      subst c0 c1 c2 c3 c4 e5 e6 e7 e8 c9 c10
      rfl
structure FopOk (o : Fop) : Prop where
  lo : -9223372036854775808 ≤ o.off
  hi : o.off ≤ 9223372036854775807
structure FopRow (w : World) (A : Option Addr) (n : Nat) (os : List Fop) : Prop where
  len : os.length = n
  small : n ≤ maxLen
  ok : ∀ o ∈ os, FopOk o
  cells : 0 < n → ∃ b off, A = some ⟨b, off, none⟩ ∧ b < w.heap.size ∧ ∀ i o, os[i]? = some o → w.rangeAt b (off + i * 16) (opL o)
theorem FopRow.step {w w' : World} {A : Option Addr} {n : Nat} {os : List Fop} (h : FopRow w A n os) (hb : Below w.heap.size w w') : FopRow w' A n os :=
  ⟨h.len, h.small, h.ok, fun h0 => by
    obtain ⟨b, off, e, hlt, hc⟩ := h.cells h0
    exact ⟨b, off, e, Nat.lt_of_lt_of_le hlt hb.size, fun i c hi => rangeAt_block (hc i c hi) (hb.block _ hlt)⟩⟩
theorem cellsFop : Tryz.prog.cellsOf 33 = 16 := by kernel_rfl
theorem cellsStr : Tryz.prog.cellsOf 9 = 1 := by kernel_rfl
theorem fop_cells {H : Type} {enc : TypeId × Value → H} {W : World} {fuel : Nat} {base : Nat} {spare : Nat → Bool} {held : Bool} {cs : List Value} {z : DataW H × List MemPlace} (ht : DataW.trod enc Tryz.prog W base spare held fuel 33 cs = some z) :
    ∃ o : Fop, FopOk o ∧ cs = opL o := by
  obtain ⟨xs, n, _, rfl, hcl, hlen, hf⟩ := DataW.trod_struct Tryz.underlying33 ht
  rw [cellsFop] at hcl
  match xs, hlen with
  | [y0, y1, y2, y3, y4, y5], _ =>
    obtain ⟨k, e0, _, _⟩ := DataW.trod_int Tryz.underlying3 (hf 0 _ rfl)
    obtain ⟨i, e1, _, _⟩ := DataW.trod_int Tryz.underlying3 (hf 1 _ rfl)
    obtain ⟨f, e2, _, w2⟩ := DataW.trod_int Tryz.underlying3 (hf 2 _ rfl)
    obtain ⟨m, e3, _, _⟩ := DataW.trod_int Tryz.underlying3 (hf 3 _ rfl)
    obtain ⟨s, e4, _, _⟩ := DataW.trod_string Tryz.underlying9 (hf 4 _ rfl)
    obtain ⟨x, e5⟩ := ino_cells (hf 5 _ rfl)
    have hb := bounds_i64 w2
    refine ⟨⟨k, i, f, m, s.data.toList, x⟩, ⟨hb.1, hb.2⟩, ?_⟩
    have c0 : (cs.drop 0).take (Tryz.prog.cellsOf 3) = [.int .i64 k] := e0
    have c1 : (cs.drop 1).take (Tryz.prog.cellsOf 3) = [.int .i64 i] := e1
    have c2 : (cs.drop 2).take (Tryz.prog.cellsOf 3) = [.int .i64 f] := e2
    have c3 : (cs.drop 3).take (Tryz.prog.cellsOf 3) = [.int .i64 m] := e3
    have c4 : (cs.drop 4).take (Tryz.prog.cellsOf 9) = [.string s] := e4
    have c5 : (cs.drop 5).take (Tryz.prog.cellsOf 31) = inoL x := e5
    have hC : Tryz.prog.cellsOf 31 = 11 := by kernel_rfl
    rw [cellsI] at c0 c1 c2 c3
    rw [cellsStr] at c4
    rw [hC] at c5
    match cs, hcl with
    | v0 :: v1 :: v2 :: v3 :: v4 :: r, hr =>
      simp at c0 c1 c2 c3 c4
      subst c0 c1 c2 c3 c4
      have h5 : r = inoL x := by
        have : ((.int .i64 k : Value) :: .int .i64 i :: .int .i64 f :: .int .i64 m :: .string s :: r).drop 5 = r := rfl
        rw [this, List.take_of_length_le (by simp at hr; omega)] at c5
        exact c5
      rw [h5]
      unfold opL
      rw [strOf_bytes]
theorem open_fops {H : Type} {enc : TypeId × Value → H} {W : World} {base : Nat} {v : Value} {d : DataW H} {p : List MemPlace} (hv : Value.okWide Tryz.prog W .any base 22 v)
    (h : DataW.Trod enc Tryz.prog W 0 (fun _ => true) true 22 v d p) : ∃ A n c os, v = .slice A n c ∧ FopRow W A n os := by
  obtain ⟨A, n, c, rfl⟩ := okWide_slice Tryz.underlying22 hv
  obtain ⟨fuel, hf⟩ := h
  rcases Go.Deep.open_slice Tryz.underlying22 hf with ⟨hcs, _⟩ | ⟨a, len, cap, m, k, D, Pl, hcs, _, hl, hm, hmm, _, hi⟩
  · simp [Value.cells] at hcs
    obtain ⟨rfl, rfl, rfl⟩ := hcs
    exact ⟨_, _, _, [], rfl, rfl, by unfold maxLen; omega, fun o ho => absurd ho (by simp), fun hn => by omega⟩
  · simp [Value.cells] at hcs
    obtain ⟨rfl, rfl, rfl⟩ := hcs
    simp only [if_true] at hmm
    have each : ∀ i, i < n → ∃ o : Fop, FopOk o ∧ ∀ j u, (opL o)[j]? = some u → W.cell? ((a.add (i * 16)).add j) = some u := by
      intro i hin
      obtain ⟨cs, hc, ht⟩ := hi i (by omega)
      rw [cellsFop] at hc
      obtain ⟨_, hcl, hat⟩ := World.cells?_some hc
      obtain ⟨o, ho, he⟩ := fop_cells ht
      refine ⟨o, ho, fun j u hu => ?_⟩
      rw [← he] at hu
      have hj : j < 16 := by have := (List.getElem?_eq_some_iff.1 hu).1; omega
      rw [hat j hj, hu]
    obtain ⟨os, hol, hos⟩ := list_of _ n each
    have hget : ∀ i o, os[i]? = some o → FopOk o ∧ ∀ j u, (opL o)[j]? = some u → W.cell? ((a.add (i * 16)).add j) = some u := by
      intro i o ho
      have hin : i < n := by have := (List.getElem?_eq_some_iff.1 ho).1; omega
      obtain ⟨q, hq, h1⟩ := hos i hin
      rw [ho] at hq
      injection hq with hq
      rw [hq]; exact h1
    refine ⟨_, _, _, os, rfl, hol, by omega, fun o ho => ?_, fun hn => ?_⟩
    · obtain ⟨i, hi', he⟩ := List.getElem_of_mem ho
      exact (hget i o (by rw [List.getElem?_eq_getElem hi', he])).1
    · obtain ⟨o0, ho0⟩ : ∃ o, os[0]? = some o := ⟨_, List.getElem?_eq_getElem (by omega)⟩
      obtain ⟨b, off, spot⟩ := a
      have hcell0 := (hget 0 o0 ho0).2 0 _ (show (opL o0)[0]? = some (.int .i64 o0.k) from rfl)
      have hspot : spot = none := by simpa [Addr.add] using World.cell?_spot hcell0
      subst hspot
      refine ⟨b, off, rfl, ?_, fun i o ho j u hu => ?_⟩
      · rw [Addr.add_mid, Addr.add_mid] at hcell0
        exact World.block_lt_of_cell? W _ hcell0
      · have := (hget i o ho).2 j u hu
        rw [Addr.add_mid, Addr.add_mid] at this
        exact this
end

section
open Go.RowKit Go.Maps
open Dk (zeros zeros_length)
open Ii (Ino)
namespace Fs
end Fs
end

namespace Fs
open Dk (zeros zeros_length)
open Ii (Ino)
def Cov (L D : List Nat) : Prop := ∀ i ∈ L, i = 0 ∨ i = 42 ∨ i ∈ D
def Cv {α : Type} (m : M α) (V : View) (k : Nat) : Prop := ∃ D, D.length ≤ k ∧ Cov (m V).2.2 D
theorem Cov.nil (D : List Nat) : Cov [] D := fun _ h => by cases h
theorem Cov.mono {L D D' : List Nat} (h : Cov L D) (hs : ∀ i ∈ D, i = 0 ∨ i = 42 ∨ i ∈ D') : Cov L D' := fun i hi => by
  rcases h i hi with q | q | q
  · exact Or.inl q
  · exact Or.inr (Or.inl q)
  · exact hs i q
theorem Cov.app {L L' D : List Nat} (h : Cov L D) (h' : Cov L' D) : Cov (L ++ L') D := fun i hi => by
  rcases List.mem_append.1 hi with q | q
  · exact h i q
  · exact h' i q
section
variable {α β : Type} {V : View}
theorem Cv.mono {m : M α} {k k' : Nat} (h : Cv m V k) (hk : k ≤ k') : Cv m V k' := by
  obtain ⟨D, h1, h2⟩ := h
  exact ⟨D, Nat.le_trans h1 hk, h2⟩
theorem Cv.andThen {m : M α} {f : α → M β} {k k' : Nat} (h : Cv m V k) (hf : ∀ a V1 L1, m V = (.ok a, V1, L1) → Cv (f a) V1 k') : Cv (andThen m f) V (k + k') := by
  obtain ⟨D, h1, h2⟩ := h
  rcases e : m V with ⟨r, V1, L1⟩
  rw [e] at h2
  cases r with
  | error er => exact ⟨D, by omega, by rw [andThen_err e]; exact h2⟩
  | ok a =>
    obtain ⟨D', h3, h4⟩ := hf a V1 L1 e
    refine ⟨D ++ D', by rw [List.length_append]; omega, ?_⟩
    rw [andThen_ok e]
    exact (h2.mono fun i hi => Or.inr (Or.inr (List.mem_append_left _ hi))).app (h4.mono fun i hi => Or.inr (Or.inr (List.mem_append_right _ hi)))
theorem cv_nil {m : M α} (h : (m V).2.2 = []) : Cv m V 0 := ⟨[], Nat.le_refl _, by rw [h]; exact Cov.nil _⟩
theorem cv_ret (a : α) : Cv (ret a) V 0 := cv_nil rfl
theorem cv_tell (f : View → Except Int α) : Cv (tell f) V 0 := cv_nil rfl
theorem cv_wr (i : Nat) (p : List UInt8) : Cv (wr i p) V 1 := ⟨[i], Nat.le_refl _, fun j hj => Or.inr (Or.inr hj)⟩
theorem cv_mark (at1 : Nat) (bit : Int) (on1 : Bool) : Cv (markM at1 bit on1) V 1 := cv_wr _ _
theorem cv_setI (i : Int) (x : Ino) : Cv (setI i x) V 1 := by
  by_cases c : Ii.putN (V (tbl i)) (halfAt i) x = V (tbl i)
  · exact ⟨[], Nat.zero_le _, by rw [show setI i x V = ret () V from if_pos c]; exact Cov.nil _⟩
  · exact ⟨[tbl i], Nat.le_refl _, by rw [show setI i x V = wr (tbl i) (Ii.putN (V (tbl i)) (halfAt i) x) V from if_neg c]; exact fun j hj => Or.inr (Or.inr hj)⟩
end
def LenV (n I : Int) (V : View) : Prop := ∀ m, isData n I m → (V m.toNat).length = 64
section
variable {n I : Int} {V : View}
theorem LenV.mark (hd : 44 ≤ Pl.dataN I) (h : LenV n I V) (p : List UInt8) : LenV n I (Fs.upd V 42 p) := fun m hm => by
  unfold Fs.upd
  rw [if_neg (by unfold isData at hm; omega)]
  exact h m hm
end
def Z (p : List UInt8) (k : Nat) : Prop := p.length = 64 ∧ ∀ j, j < 2 * k → p[j]? = some 0
theorem setNum_at (p : List UInt8) (k : Nat) (hk : k < 32) (v : Int) : setNum p (k : Int) v = Pg.over p (2 * k) (Pg.bytesN 2 v) := by
  unfold setNum
  rw [if_pos (by omega)]
  unfold Pg.setN
  rw [if_pos (Pg.num_mk (by omega) (by omega) (by omega) (by omega))]
  have e : (2 * (k : Int)).toNat = 2 * k := by omega
  rw [e]
  rfl
theorem Z.step {p : List UInt8} {k : Nat} (h : Z p k) (hk : k < 32) : Z (setNum p (k : Int) 0) (k + 1) := by
  refine ⟨setNum_length _ _ _ h.1, fun j hj => ?_⟩
  rw [setNum_at _ _ hk, Pg.over_at _ _ _ _ (by rw [Pg.bytesN_length, h.1]; omega), Pg.bytesN_length]
  by_cases h1 : j < 2 * k
  · rw [if_pos h1]; exact h.2 j h1
  · rw [if_neg h1, if_pos (by omega)]
    have : j - 2 * k = 0 ∨ j - 2 * k = 1 := by omega
    rcases this with e | e <;> rw [e] <;> decide
theorem Z.full {p : List UInt8} (h : Z p 32) : p = zeros := by
  apply List.ext_getElem?
  intro j
  by_cases hj : j < 64
  · rw [h.2 j (by omega)]
    unfold zeros
    rw [List.getElem?_replicate, if_pos hj]
  · rw [List.getElem?_eq_none (by rw [h.1]; omega), List.getElem?_eq_none (by rw [zeros_length]; omega)]
section
variable {n I : Int} (hd : 44 ≤ Pl.dataN I)
include hd
theorem cut0 : ∀ (d : Nat) (m frm : Int) (V : View), frm ≤ 0 → LenV n I V → ∃ V' L, cutM n I d m frm V = (.ok 0, V', L) ∧ Cov L [] ∧ LenV n I V' := by
  intro d
  induction d with
  | zero =>
    intro m frm V hf hV
    unfold cutM
    rw [if_neg (by omega)]
    by_cases hm : isData n I m
    · rw [if_pos hm]
      refine ⟨_, _, rfl, ?_, hV.mark hd _⟩
      intro j hj
      exact Or.inr (Or.inl (by simpa [markM, wr, ret] using hj))
    · rw [if_neg hm, if_neg (by omega)]
      exact ⟨V, [], rfl, Cov.nil _, hV⟩
  | succ d ih =>
    intro m frm V hf hV
    have hp : (0 : Int) < 32 ^ (d + 1) := Int.pow_pos (by omega)
    unfold cutM
    rw [if_neg (by omega)]
    by_cases hm : isData n I m
    · rw [if_pos hm]
      have hq : (0 : Int) ≤ 32 ^ d := Int.le_of_lt (Int.pow_pos (by omega))
      have loop : ∀ (c k : Nat) (was p : List UInt8) (V : View), k + c = 32 → Z p k → LenV n I V → ∃ p' V' L, cutLoop (cutM n I d) (32 ^ d) frm was k c p V = (.ok p', V', L) ∧ Z p' 32 ∧ Cov L [] ∧ LenV n I V' := by
        intro c
        induction c with
        | zero =>
          intro k was p V hk hz hV
          obtain rfl : k = 32 := by omega
          exact ⟨p, V, [], rfl, hz, Cov.nil _, hV⟩
        | succ c ihc =>
          intro k was p V hk hz hV
          have hkq : (0 : Int) ≤ (k : Int) * 32 ^ d := Int.mul_nonneg (by omega) hq
          obtain ⟨V1, L1, e1, c1, v1⟩ := ih (numN was (k : Int)) (frm - (k : Int) * 32 ^ d) V (by omega) hV
          obtain ⟨p', V', L, e2, z2, c2, v2⟩ := ihc (k + 1) was (setNum p (k : Int) 0) V1 (by omega) (hz.step (by omega)) v1
          refine ⟨p', V', L1 ++ L, ?_, z2, c1.app c2, v2⟩
          rw [cutLoop, andThen_ok e1, e2]
      obtain ⟨p', V', L, e, z, c, v⟩ := loop 32 0 (V m.toNat) (V m.toNat) V rfl ⟨hV m hm, fun j hj => by omega⟩ hV
      have e2 : cutNums (cutM n I d) (32 ^ d) m frm V = (.ok false, V', L) := by
        unfold cutNums
        rw [andThen_ok (show see (fun V : View => V m.toNat) V = (.ok (V m.toNat), V, []) from rfl), andThen_ok e, z.full]
        simp [ret]
      rw [andThen_ok e2]
      refine ⟨_, _, rfl, ?_, v.mark hd _⟩
      simp only [Bool.false_eq_true, if_false]
      refine c.app ?_
      intro j hj
      exact Or.inr (Or.inl (by simpa [markM, wr, ret, andThen] using hj))
    · rw [if_neg hm, if_neg (by omega)]
      exact ⟨V, [], rfl, Cov.nil _, hV⟩
omit hd in
theorem keep_andThen {α β : Type} {m : M α} {f : α → M β} {V : View} (h : LenV n I (m V).2.1) (hf : ∀ a V1 L1, m V = (.ok a, V1, L1) → LenV n I V1 → LenV n I (f a V1).2.1) : LenV n I (andThen m f V).2.1 := by
  rcases e : m V with ⟨r, V1, L1⟩
  rw [e] at h
  cases r with
  | error er => rw [andThen_err e]; exact h
  | ok a => rw [andThen_ok e]; exact hf a V1 L1 e h
theorem cutN (d : Nat) (m frm : Int) (V : View) (hV : LenV n I V) (hf : frm ≤ 0) : Cv (cutM n I d m frm) V 0 ∧ LenV n I (cutM n I d m frm V).2.1 := by
  obtain ⟨V', L, e, c, v⟩ := cut0 hd d m frm V hf hV
  rw [e]
  exact ⟨⟨[], Nat.le_refl _, by rw [e]; exact c⟩, v⟩
omit hd in
theorem cvk_andThen {α β : Type} {m : M α} {f : α → M β} {V : View} {k k' : Nat} (h : Cv m V k ∧ LenV n I (m V).2.1) (hf : ∀ a V1, LenV n I V1 → Cv (f a) V1 k' ∧ LenV n I (f a V1).2.1) : Cv (andThen m f) V (k + k') ∧ LenV n I (andThen m f V).2.1 :=
  ⟨h.1.andThen fun a V1 L1 e => (hf a V1 (by have := h.2; rw [e] at this; exact this)).1, keep_andThen h.2 fun a V1 L1 _ hV => (hf a V1 hV).2⟩
theorem cutFileN (x : Ino) (V : View) (hV : LenV n I V) : Cv (cutFile n I x 0) V 0 := by
  unfold cutFile
  exact (cvk_andThen (k := 0) (k' := 0) (cutN hd 0 _ _ V hV (by omega)) fun a V1 h1 => cvk_andThen (k := 0) (k' := 0) (cutN hd 0 _ _ V1 h1 (by omega)) fun b V2 h2 => cvk_andThen (k := 0) (k' := 0) (cutN hd 0 _ _ V2 h2 (by omega)) fun c V3 h3 => cvk_andThen (k := 0) (k' := 0) (cutN hd 0 _ _ V3 h3 (by omega)) fun d V4 h4 =>
    cvk_andThen (k := 0) (k' := 0) (cutN hd 1 _ _ V4 h4 (by omega)) fun e V5 h5 => cvk_andThen (k := 0) (k' := 0) (cutN hd 2 _ _ V5 h5 (by omega)) fun f V6 h6 => ⟨cv_ret _, h6⟩).1
theorem cv_release (i : Int) (V : View) (hV : LenV n I V) : Cv (releaseM n I i) V 2 := by
  unfold releaseM
  refine (cv_tell _).andThen (k' := 2) fun x V1 L1 e1 => ?_
  obtain rfl : V1 = V := by unfold tell at e1; injection e1 with _ e1; injection e1 with e1 _; exact e1.symm
  exact (cutFileN hd x V1 hV).andThen (k' := 2) fun _ _ _ _ => (cv_setI _ _).andThen (k' := 1) fun _ _ _ _ => cv_mark _ _ _
end
end Fs

namespace Fs
open Dk (zeros zeros_length)
open Ii (Ino)
def Frame {α : Type} (m : M α) : Prop := ∀ V j, j ∉ (m V).2.2 → (m V).2.1 j = V j
theorem frame_ret {α : Type} (a : α) : Frame (ret a) := fun _ _ _ => rfl
theorem frame_see {α : Type} (f : View → α) : Frame (see f) := fun _ _ _ => rfl
theorem frame_wr (i : Nat) (p : List UInt8) : Frame (wr i p) := fun V j hj => by
  have : j ≠ i := fun e => hj (by simp [wr, e])
  show upd V i p j = V j
  unfold upd
  rw [if_neg this]
theorem frame_mark (at1 : Nat) (bit : Int) (on1 : Bool) : Frame (markM at1 bit on1) := fun V j hj => frame_wr at1 (Bt.setB (V at1) bit on1) V j hj
theorem frame_andThen {α β : Type} {m : M α} {f : α → M β} (h : Frame m) (hf : ∀ a, Frame (f a)) : Frame (andThen m f) := fun V j hj => by
  have hm := h V j
  rcases e : m V with ⟨r, V1, L1⟩
  rw [e] at hm
  cases r with
  | error er => rw [andThen_err e] at hj ⊢; exact hm hj
  | ok a =>
    rw [andThen_ok e] at hj ⊢
    simp only [List.mem_append, not_or] at hj
    exact (hf a V1 j hj.2).trans (hm hj.1)
theorem frame_ite {α : Type} {c : Prop} [Decidable c] {m m' : M α} (h1 : Frame m) (h2 : Frame m') : Frame (if c then m else m') := by
  split
  · exact h1
  · exact h2
def bodyN (n I : Int) (g : List UInt8 → List UInt8) (ks : List Int) (m : Int) : M Unit := andThen (goR n I ks m) fun t => andThen (tell (dataF n I t)) fun p => wr t.toNat (g p)
theorem bodyN_nil (n I : Int) (g : List UInt8 → List UInt8) (m : Int) : bodyN n I g [] m = andThen (tell (dataF n I m)) fun p => wr m.toNat (g p) := by
  unfold bodyN goR
  rw [ret_andThen]
theorem bodyN_cons (n I : Int) (g : List UInt8 → List UInt8) (k : Int) (ks : List Int) (m : Int) : bodyN n I g (k :: ks) m = andThen (tell (dataF n I m)) fun p =>
    if numN p k = 0 then andThen (takeM n I) fun t => andThen (wr m.toNat (setNum p k t)) fun _ => bodyN n I g ks t else bodyN n I g ks (numN p k) := by
  unfold bodyN
  rw [goR, andThen_assoc]
  congr 1
  funext p
  split
  · rw [andThen_assoc]
    congr 1
    funext t
    rw [andThen_assoc]
  · rfl
def pieceM (n I : Int) (x : Ino) (i : Int) (g : List UInt8 → List UInt8) : M Ino :=
  if firstN x i = 0 then andThen (takeM n I) fun m => andThen (bodyN n I g (placesN i) m) fun _ => ret (setFirst x i m)
  else andThen (bodyN n I g (placesN i) (firstN x i)) fun _ => ret x
theorem wloop_piece (n I : Int) (c : Pc) (cs : List Pc) (x : Ino) (t : List UInt8) : wloop n I (c :: cs) x t = andThen (pieceM n I x c.idx (fun p => Pg.setTextN p c.at1 (t.take c.size))) fun y => wloop n I cs y (t.drop c.size) := by
  rw [wloop]
  unfold reachM pieceM bodyN
  split
  · simp only [andThen_assoc, ret_andThen]
  · simp only [andThen_assoc, ret_andThen]
section
variable {n I : Int} (hpl : Pl.rightB n I = true)
include hpl
theorem take_cases (V : View) : (∃ e, takeM n I V = (.error e, V, [])) ∨ ∃ m V1, takeM n I V = (.ok m, V1, [42, m.toNat]) ∧ isData n I m ∧ V1 m.toNat = zeros ∧ (∀ j, j ≠ 42 → j ≠ m.toNat → V1 j = V j) := by
  obtain ⟨b1, b2, b3, b4, b5, b6, b7⟩ := pl_bd hpl
  have hb := Bt.first_bd (V 42) 0 (n - Pl.dataN I)
  unfold takeM
  rw [andThen_ok (show see (fun V : View => Bt.first (V 42) 0 (n - Pl.dataN I)) V = (.ok (Bt.first (V 42) 0 (n - Pl.dataN I)), V, []) from rfl)]
  generalize Bt.first (V 42) 0 (n - Pl.dataN I) = b at hb ⊢
  rcases hb with rfl | ⟨h1, _, h2⟩
  · left
    exact ⟨28, rfl⟩
  · right
    rw [if_neg (by omega)]
    refine ⟨Pl.dataN I + b, upd (upd V 42 (Bt.setB (V 42) b true)) (Pl.dataN I + b).toNat zeros, rfl, ⟨by omega, by omega⟩, ?_, ?_⟩
    · unfold upd; rw [if_pos rfl]
    · intro j h3 h4
      unfold upd; rw [if_neg h4, if_neg h3]
omit hpl in
theorem tell_is {α : Type} {f : View → Except Int α} {V V1 : View} {a : α} {L : List Nat} (h : tell f V = (.ok a, V1, L)) : f V = .ok a ∧ V1 = V ∧ L = [] := by
  unfold tell at h
  injection h with h1 h2
  injection h2 with h2 h3
  exact ⟨h1, h2.symm, h3.symm⟩
end
section
variable {n I : Int} (hpl : Pl.rightB n I = true)
include hpl
end
end Fs

namespace Fs
open Dk (zeros zeros_length)
open Ii (Ino)
section
variable {n I : Int} (hpl : Pl.rightB n I = true)
include hpl
end
section
variable {n I : Int} (hpl : Pl.rightB n I = true)
include hpl
omit hpl in
theorem least_in (V : View) : ∀ (c : Nat) (i j : Int), leastG V c i = .ok j → i ≤ j ∧ j < i + c
  | 0, i, j, h => by cases h
  | c + 1, i, j, h => by
    unfold leastG at h
    split at h
    · injection h with h; omega
    · have := least_in V c (i + 1) j h; omega
end
end Fs
section
open Dk (zeros zeros_length)
open Ii (Ino)
theorem cntU_cov (N : Nat) {L D : List Nat} (h : Fs.Cov L D) : Fs.cntU (noPgs N) L ≤ D.length + 2 := by
  refine Nat.le_trans ?_ (cntU_le N (0 :: 42 :: D))
  unfold Fs.cntU
  apply List.countP_mono_left
  intro i _ hi
  simp only [List.contains_eq_mem, Bool.or_eq_true, decide_eq_true_eq, List.mem_cons] at hi ⊢
  rcases hi with hi | hi
  · exact Or.inl hi
  · exact Or.inr (h i hi)
theorem room_step {α : Type} {s : Sto} {n I : Int} (v : Vs s n I) (hi : Idle s) {m : Fs.M α} {er : Int} (h : Fails s m er) (hc : Fs.Cv m (nv s) 34) : ∃ V L, m (nv s) = (.error er, V, L) := by
  rcases h with h | ⟨_, h2⟩
  · exact h
  · exfalso
    obtain ⟨D, h3, h4⟩ := hc
    rw [hi, v.r] at h2
    have := cntU_cov s.dk.last.length h4
    omega
theorem Vs.lenV {s : Sto} {n I : Int} (v : Vs s n I) : Fs.LenV n I (nv s) := fun m hm => by
  have := v.bd
  exact (v.read (i := m) ⟨by have := hm.1; omega, hm.2, by have := hm.1; omega⟩).2.2
end
end Go.Proofs.YtncmihikpcdgoaaGreat
