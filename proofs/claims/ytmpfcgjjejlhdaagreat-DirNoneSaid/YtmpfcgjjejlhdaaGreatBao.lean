/- Texts of the proof. -/
import Derived.Test.YtmpfcgjjejlhdaaGreatBan
import Derived.Test.YtmpfcgjjejlhdaaGreatBab
import Derived.Test.YtmpfcgjjejlhdaaGreatBam
import Derived.Test.YtmpfcgjjejlhdaaGreatBal
set_option maxRecDepth 100000
set_option maxHeartbeats 16000000
namespace Go.Proofs.YtmpfcgjjejlhdaaGreat
section
open Go.RowKit Go.Maps
open Dk (zeros zeros_length)
open Ii (Ino)
open Jn (Chg Cl)
theorem rooted_yes {w : World} {V : Nat} {b : Blk} {s : Sto} {n I k : Int} (h : VolAt w V b s n I k) (v : Vs s n I) (h1 : (Fs.inoAt (nv s) 1).k = 2) (h2 : (Fs.inoAt (nv s) 1).l ≠ 0) : Calls Tryz.prog 60 #[.pointer (some ⟨V, 0, none⟩)] w fun e w' => e = .returned (.int .i64 0) ∧ Below w.heap.size w w' := by
  have HI := Lib.hid (binode_yes h.store v 1 (by decide) v.bd.1)
  have HR := Lib.hid h.row
  generalize Fs.inoAt (nv s) 1 = x at h1 h2 HI
  have g2 : (x.l == 0) = false := by simpa using h2
  have g1 : (x.k != 2) = false := by rw [h1]; rfl
  have g3 : (x.k == 2) = true := by rw [h1]; rfl
  have S0 := Lib.hid (Lo.start (L := []) w (by simp))
  clear h v
  unfold baseV at HI
  go_enter Tryz.func60, Tryz.ntmps60
  go_wp2_with (first
    | (with_reducible refine wpList_load_mid rfl 70 (.tmp 8) rfl V 0 rfl [.pointer (some ⟨b.s, 0, none⟩), .int .i64 n, .int .i64 I] _ HR.out.base Tryz.underlying70 rfl (by kernel_rfl) ?_)
    | (go_at_call 80; refine HI.out.mono ?_; rintro e w1 ⟨rfl, hb⟩; replace S0 := Lib.hid (S0.out.below hb); clear hb)
    | ((with_reducible refine wpList_store_newrow (vs := inoL x) inoT ?_ (inoL_one _) rfl (.tmp 3) (.tmp 11) rfl rfl ?_ ?_ ?_); (exact rfl); (exact rfl); (exact rfl); intro W4 hP hB2 hz2; have S1 := Lib.hid (S0.out.made hP hB2 hz2); clear hP hB2 hz2; have ck := (S1.out.get 0 _ rfl).cell 0 _ rfl; have cl := (S1.out.get 0 _ rfl).cell 3 _ rfl))
  go_ret
  exact ⟨rfl, S1.out.bel⟩
def TdS (w : World) (V : Nat) (b : Blk) (n I : Int) (s : Sto) (C : Nat) (i : Int) (x : Ino) : Option (Bool × Nat) → World → Prop
  | none, W => Lo (V :: b.all) w [(C, [.int .i64 i])] W ∧ VolAt W V b s n I 0
  | some (z, a), W => Lo (V :: b.all) w [(C, [.int .i64 i]), (a, if z = true then inoL x else inoL Ii.zero)] W ∧ VolAt W V b s n I 0
section
variable {w W W' : World} {V : Nat} {b : Blk} {n I : Int} {s : Sto} {C : Nat} {i : Int} {x : Ino}
theorem TdS.below : ∀ {k : Option (Bool × Nat)}, TdS w V b n I s C i x k W → Below W.heap.size W W' → TdS w V b n I s C i x k W'
  | none, h, hb => ⟨h.1.below hb, h.2.below hb⟩
  | some _, h, hb => ⟨h.1.below hb, h.2.below hb⟩
theorem TdS.vol : ∀ {k : Option (Bool × Nat)}, TdS w V b n I s C i x k W → VolAt W V b s n I 0
  | none, h => h.2
  | some _, h => h.2
theorem TdS.cell : ∀ {k : Option (Bool × Nat)}, TdS w V b n I s C i x k W → W.cell? ⟨C, 0, none⟩ = some (.int .i64 i)
  | none, h => (h.1.get 0 _ rfl).cell 0 _ rfl
  | some _, h => (h.1.get 0 _ rfl).cell 0 _ rfl
end
def tidyMs (I : Int) (p : Value) (w : World) : Nat := match p with
  | .pointer (some a) => match w.cell? a with
    | some (.int _ i) => (I + 1 - i).toNat
    | _ => 0
  | _ => 0
structure TidyJ (n I : Int) (J : Nat → Sto → Prop) : Prop where
  vs : ∀ k s, J k s → Vs s n I ∧ s.q < 4294967290
  skip : ∀ k s, J k s → (k : Int) + 1 ≤ I → ((Fs.inoAt (nv s) ((k : Int) + 1)).k = 0 ∨ 0 < (Fs.inoAt (nv s) ((k : Int) + 1)).l) → J (k + 1) s
  none : ∀ k s, J k s → (k : Int) + 1 ≤ I → ((Fs.inoAt (nv s) ((k : Int) + 1)).k = 0 ∨ 0 < (Fs.inoAt (nv s) ((k : Int) + 1)).l)
theorem tidy_rel {w W wr : World} {V : Nat} {b : Blk} {n I : Int} {J : Nat → Sto → Prop} {l : List (Nat × List Value)} {s2 : Sto} {k C : Nat} (S : Lo (V :: b.all) w l W) (HV : VolAt W V b s2 n I 0) (hJ : J (k + 1) s2) (hk : (k : Int) + 1 ≤ I) (hC : wr.cell? ⟨C, 0, none⟩ = some (.int .i64 ((k : Int) + 1))) :
    (∃ (C2 k2 : Nat) (s' : Sto), (k2 : Int) ≤ I ∧ Value.pointer (some ⟨W.heap.size, 0, none⟩) = .pointer (some ⟨C2, 0, none⟩) ∧ Hid (Lo (V :: b.all) w [(C2, [.int .i64 ((k2 : Int) + 1)])] (W.alloc (.cells #[.int .i64 ((k : Int) + 1 + 1)] 3))) ∧ Hid (VolAt (W.alloc (.cells #[.int .i64 ((k : Int) + 1 + 1)] 3)) V b s' n I 0) ∧ Hid (J k2 s')) ∧
    tidyMs I (.pointer (some ⟨W.heap.size, 0, none⟩)) (W.alloc (.cells #[.int .i64 ((k : Int) + 1 + 1)] 3)) < tidyMs I (.pointer (some ⟨C, 0, none⟩)) wr := by
  have S9 := (S.cut 0).alloc W.heap.size rfl [.int .i64 ((k : Int) + 1 + 1)] 3
  have c9 := (S9.get 0 _ rfl).cell 0 _ rfl
  refine ⟨⟨W.heap.size, k + 1, s2, by omega, rfl, Lib.hid (by rw [show ((k + 1 : Nat) : Int) + 1 = (k : Int) + 1 + 1 by omega]; exact S9), Lib.hid (HV.alloc _), Lib.hid hJ⟩, ?_⟩
  have e1 : tidyMs I (.pointer (some ⟨C, 0, none⟩)) wr = (I + 1 - ((k : Int) + 1)).toNat := by unfold tidyMs; simp only [hC]
  have e2 : tidyMs I (.pointer (some ⟨W.heap.size, 0, none⟩)) (W.alloc (.cells #[.int .i64 ((k : Int) + 1 + 1)] 3)) = (I + 1 - ((k : Int) + 1 + 1)).toNat := by
    have : (W.alloc (.cells #[.int .i64 ((k : Int) + 1 + 1)] 3)).cell? ⟨W.heap.size, 0, none⟩ = some (.int .i64 ((k : Int) + 1 + 1)) := c9
    unfold tidyMs; simp only [this]
  rw [e1, e2]
  omega
theorem tidy_any {w : World} {V : Nat} {b : Blk} {s : Sto} {n I : Int} (h : VolAt w V b s n I 0) (J : Nat → Sto → Prop) (hJ : TidyJ n I J) (h0 : J 0 s) : Calls Tryz.prog 61 #[.pointer (some ⟨V, 0, none⟩)] w fun e w' => ∃ s2, J I.toNat s2 ∧ e = .returned (.int .i64 (ssyncE s2)) ∧ VolAt w' V b (ssync s2) n I 0 ∧ Only (V :: b.all) w w' := by
  have hI := (hJ.vs _ _ h0).1.bd
  have hlt := h.row.lt
  have HJ := Lib.hid hJ
  have S0 := Lib.hid ((Lo.start (L := V :: b.all) w (fun k hk => by
    rcases List.mem_cons.1 hk with rfl | hk
    · exact hlt
    · exact h.store.lt k hk)).alloc _ rfl [.int .i64 1] 3)
  have HV0 := Lib.hid (h.alloc (.cells [.int .i64 1].toArray 3))
  have HNB := Lib.hid h.nb
  have HBL : Hid (∀ k ∈ b.all, k < w.heap.size) := Lib.hid (fun k hk => h.store.lt k hk)
  go_enter Tryz.func61, Tryz.ntmps61
  go_wp2_with fail
  go_loopw [3] (fun p wr => ∃ (C k : Nat) (s' : Sto), (k : Int) ≤ I ∧ p = .pointer (some ⟨C, 0, none⟩) ∧ Hid (Lo (V :: b.all) w [(C, [.int .i64 ((k : Int) + 1)])] wr) ∧ Hid (VolAt wr V b s' n I 0) ∧ Hid (J k s')) (fun p wr => tidyMs I p wr)
  case atStart => exact ⟨_, 0, s, by omega, rfl, Lib.hid (by exact S0.out), Lib.hid (by exact HV0.out), Lib.hid h0⟩
  case round =>
    clear S0 HV0 h0 h
    obtain ⟨C, k, s', hk, rfl, S, HV, HJk⟩ := hrel
    have cC := (S.out.get 0 _ rfl).cell 0 _ rfl
    have cI : wr.cell? ⟨V, 2, none⟩ = some (.int .i64 I) := HV.out.row.cell 2 _ rfl
    have HCW := Lib.hid cC
    by_cases hlt2 : (k : Int) + 1 ≤ I
    · go_wp2_with fail
      go_quiet (fail)
      replace S := Lib.hid (S.out.drewN nq)
      replace HV := Lib.hid (HV.out.below (below_drewN _ nq))
      clear cC cI
      generalize World.drewN _ _ = w1 at S HV ⊢
      have HI : Hid (∀ kk W, TdS w V b n I s' C ((k : Int) + 1) (Fs.inoAt (nv s') ((k : Int) + 1)) kk W → Calls Tryz.prog 80 #[.agg #[.pointer (some ⟨b.s, 0, none⟩), .int .i64 n, .int .i64 I], .int .i64 ((k : Int) + 1)] W fun e w' => e = .returned (.tuple #[inoV (Fs.inoAt (nv s') ((k : Int) + 1)), .int .i64 0]) ∧ TdS w V b n I s' C ((k : Int) + 1) (Fs.inoAt (nv s') ((k : Int) + 1)) kk w') := Lib.hid (fun kk W hS => by
        have := binode_yes hS.vol.store (HJ.out.vs _ _ HJk.out).1 ((k : Int) + 1) (by omega) hlt2
        exact this.mono fun e w' hh => ⟨hh.1, hS.below hh.2⟩)
      have HSK := Lib.hid (HJ.out.skip k s' HJk.out hlt2)
      have HST := Lib.hid (HJ.out.none k s' HJk.out hlt2)
      have hvs := (HJ.out.vs _ _ HJk.out)
      generalize Fs.inoAt (nv s') ((k : Int) + 1) = x at HI HSK HST
      go_wp2_with fail
      refine wp_region_linp (TdS w V b n I s' C ((k : Int) + 1) x) (fun _ _ => False) (fun i => i == 9 || i == 10) (fun i => [.pointer (some ⟨V, 0, none⟩), .pointer (some ⟨V, 0, none⟩), .pointer (some ⟨V, 0, none⟩), .agg #[.pointer (some ⟨b.s, 0, none⟩), .int .i64 n, .int .i64 I], .int .i64 ((k : Int) + 1), .tuple #[inoV x, .int .i64 0], .tuple #[inoV x, .int .i64 0], inoV x, .int .i64 0, undef, undef, .int .i64 0].getD i undef) none (by kernel_rfl) (by kernel_rfl) (fun _ _ _ _ h => h.elim) (show TdS w V b n I s' C ((k : Int) + 1) x none _ from TdS.below (k := none) ⟨S.out, HV.out⟩ ((Below.refl _ _).drew)) ?_
      refine linp_step (i := 0) (d := some 18) (v := (.pointer (some ⟨V, 0, none⟩))) rfl rfl (by kernel_rfl) (by kernel_rfl) rfl rfl (ord_value (by kernel_rfl) ?_) ?_
      · ((intro _ _ _; go_simp) <;> kernel_rfl)
      try simp only [Act.put, puA, puB, puC]
      refine linp_step (i := 1) (d := some 19) (v := (.pointer (some ⟨V, 0, none⟩))) rfl rfl (by kernel_rfl) (by kernel_rfl) rfl rfl (ord_value (by kernel_rfl) ?_) ?_
      · ((intro _ _ _; go_simp) <;> kernel_rfl)
      try simp only [Act.put, puA, puB, puC]
      refine linp_step (i := 2) (d := some 20) (v := (.pointer (some ⟨V, 0, none⟩))) rfl rfl (by kernel_rfl) (by kernel_rfl) rfl rfl (ord_value (by kernel_rfl) ?_) ?_
      · ((intro _ _ _; go_simp) <;> kernel_rfl)
      try simp only [Act.put, puA, puB, puC]
      refine linp_step (i := 3) (d := some 21) (v := (.agg #[.pointer (some ⟨b.s, 0, none⟩), .int .i64 n, .int .i64 I])) rfl rfl (by kernel_rfl) (by kernel_rfl) rfl rfl (ord_mid loads_base (by kernel_rfl) (.tmp 20) rfl rfl (fun kk W hS => (TdS.vol hS).row.base)) ?_
      try simp only [Act.put, puA, puB, puC]
      refine linp_step (i := 4) (d := some 22) (v := (.int .i64 ((k : Int) + 1))) rfl rfl (by kernel_rfl) (by kernel_rfl) rfl rfl (ord_value (by kernel_rfl) ?_) ?_
      · (intro sZ wZ hZ; have cZ := (fun kk W hS => TdS.cell hS) sZ wZ hZ; go_simp)
      try simp only [Act.put, puA, puB, puC]
      refine linp_step (i := 5) (d := some 23) (v := (.tuple #[inoV x, .int .i64 0])) rfl rfl (by kernel_rfl) (by kernel_rfl) rfl rfl (ord_call (f := 80) (args := #[.agg #[.pointer (some ⟨b.s, 0, none⟩), .int .i64 n, .int .i64 I], .int .i64 ((k : Int) + 1)]) (by kernel_rfl) ?_ (fun kk W hS => HI.out kk W hS)) ?_
      · (intro _; go_simp)
      try simp only [Act.put, puA, puB, puC]
      refine linp_step (i := 6) (d := some 17) (v := (.tuple #[inoV x, .int .i64 0])) rfl rfl (by kernel_rfl) (by kernel_rfl) rfl rfl (ord_value (by kernel_rfl) ?_) ?_
      · ((intro _ _ _; go_simp) <;> kernel_rfl)
      try simp only [Act.put, puA, puB, puC]
      refine linp_step (i := 7) (d := some 24) (v := (inoV x)) rfl rfl (by kernel_rfl) (by kernel_rfl) rfl rfl (ord_value (by kernel_rfl) ?_) ?_
      · ((intro _ _ _; go_simp) <;> kernel_rfl)
      try simp only [Act.put, puA, puB, puC]
      refine linp_step (i := 8) (d := some 25) (v := (.int .i64 0)) rfl rfl (by kernel_rfl) (by kernel_rfl) rfl rfl (ord_value (by kernel_rfl) ?_) ?_
      · ((intro _ _ _; go_simp) <;> kernel_rfl)
      try simp only [Act.put, puA, puB, puC]
      refine linp_turnD (i := 9) (d := some 4) [10] (fun u kk => ∃ a, u = .pointer (some ⟨a, 0, none⟩) ∧ kk = some (false, a)) rfl rfl (by kernel_rfl) (by kernel_rfl) rfl (by kernel_rfl) ⟨_, _, 0, rfl, rfl⟩ (by kernel_rfl) (fun W hS => ?_) ?_
      · unfold GivesP
        go_simp
        exact ⟨hS.1.alloc W.heap.size rfl (inoL Ii.zero) _, hS.2.alloc _⟩
      rintro _ _ ⟨a, rfl, rfl⟩
      try simp only [Act.put, puA, puB, puC]
      refine linp_turnD (i := 10) (d := none) [] (fun u kk => u = undef ∧ kk = some (true, a)) rfl rfl (by kernel_rfl) (by kernel_rfl) rfl (by kernel_rfl) ⟨_, _, rfl, rfl⟩ (by kernel_rfl) (fun W hS => givesP_of (gives_store_row inoT (hS.1.get 1 _ rfl) rfl rfl (inoL_one x) (.tmp 4) (.tmp 24) rfl rfl rfl ⟨_, ⟨rfl, rfl⟩, hS.1.put 1 _ rfl (inoL x) rfl, ?_⟩)) ?_
      · have hge := (hS.1.row _ (List.mem_cons_of_mem _ (List.mem_cons_self ..))).2.1
        have hge2 : w.heap.size ≤ a := hge
        exact hS.2.only (L := [a]) ((Only.refl [a] W).setCells a (by simp) _ 0 W) (by simp; omega) (fun i hi q => by
          rw [List.mem_singleton] at q
          have := HBL.out i hi
          omega)
      rintro _ _ ⟨rfl, rfl⟩
      try simp only [Act.put]
      refine linp_step (i := 11) (d := some 5) (v := (.int .i64 0)) rfl rfl (by kernel_rfl) (by kernel_rfl) rfl rfl (ord_value (by kernel_rfl) ?_) ?_
      · ((intro _ _ _; go_simp) <;> kernel_rfl)
      try simp only [Act.put, puA, puB, puC]
      refine linp_done (by kernel_rfl) fun W hS => ?_
      clear S HV
      obtain ⟨S1, HV1⟩ := hS
      have S : Hid (Lo (V :: b.all) w [(C, [.int .i64 ((k : Int) + 1)]), (a, inoL x)] W) := Lib.hid S1
      have HV := Lib.hid HV1
      clear S1 HV1 HI
      have ck := (S.out.get 1 _ rfl).cell 0 _ rfl
      have cl := (S.out.get 1 _ rfl).cell 3 _ rfl
      by_cases hx : x.k = 0 ∨ 0 < x.l
      · have HJ2 := Lib.hid (HSK.out hx)
        have cC := (S.out.get 0 _ rfl).cell 0 _ rfl
        have gx : ((x.k == 0) = true) ∨ ((x.k == 0) = false ∧ 0 < x.l) := by
          by_cases q : x.k = 0
          · left; rw [q]; rfl
          · right; exact ⟨by simpa using q, by rcases hx with h | h; exact absurd h q; exact h⟩
        clear hx
        rcases gx with g1 | ⟨g1, g2⟩
        · go_wp2_with fail
          exact tidy_rel S.out HV.out HJ2.out hlt2 HCW.out
        · go_wp2_with fail
          exact tidy_rel S.out HV.out HJ2.out hlt2 HCW.out
      · exact absurd HST.out hx
    · go_wp2_with fail
      go_quiet (fail)
      replace S := Lib.hid (S.out.drewN nq)
      replace HV := Lib.hid (HV.out.below (below_drewN _ nq))
      clear cC cI
      generalize World.drewN _ _ = w1 at S HV ⊢
      have hkk : k = I.toNat := by omega
      have hvs := HJ.out.vs _ _ HJk.out
      have HSY := Lib.hid (vsync_any HV.out hvs.1.snd.up hvs.1.snd.q0 hvs.2)
      go_wp2_with (go_at_call 105; (with_reducible refine HSY.out.mono ?_); rintro e w2 ⟨rfl, hv2, ho2⟩)
      go_ret
      exact ⟨s', hkk ▸ HJk.out, rfl, hv2, S.out.only.trans (ho2.mono (fun i hi => List.mem_cons_of_mem _ (by simp only [syncL, Blk.all, List.mem_cons, List.not_mem_nil, or_false] at hi ⊢; rcases hi with h | h | h | h | h <;> simp [h])))⟩
end

section
open Go.RowKit Go.Maps
open Dk (zeros zeros_length)
open Ii (Ino)
open Jn (Chg Cl)
def SGood (w : World) (d l m : Nat) (K : Sto → Prop) (e : Ending) (w' : World) : Prop :=
  ∃ (b : Blk) (s : Sto), b.d = d ∧ b.l = l ∧ b.m = m ∧ w.heap.size ≤ b.s ∧ w.heap.size ≤ b.j ∧ w.heap.size ≤ b.t ∧ w.heap.size ≤ b.g ∧ e = .returned (.tuple #[.pointer (some ⟨b.s, 0, none⟩), .int .i64 0]) ∧ StoreAt w' b s ∧ K s ∧ Only [d, l, m] w w'
def VGood (w : World) (d l m : Nat) (n I : Int) (K : Sto → Prop) (e : Ending) (w' : World) : Prop :=
  ∃ (V : Nat) (b : Blk) (s : Sto), b.d = d ∧ b.l = l ∧ b.m = m ∧ w.heap.size ≤ V ∧ w.heap.size ≤ b.s ∧ w.heap.size ≤ b.j ∧ w.heap.size ≤ b.t ∧ w.heap.size ≤ b.g ∧ e = .returned (.tuple #[.pointer (some ⟨V, 0, none⟩), .int .i64 0]) ∧ VolAt w' V b s n I 0 ∧ K s ∧ Only [d, l, m] w w'
theorem mount_any {w : World} {d l m : Nat} {s : Dk.St} {n I : Int} (h : DiskAt w d l m s) (hc : Cl s) (hn : (s.last.length : Int) = n) (hp : s.last.getD 0 [] = Pl.superP n I) (hpl : Pl.rightB n I = true) (K K2 : Sto → Prop)
    (hO : ∀ W, DiskAt W d l m s → Calls Tryz.prog 58 #[.pointer (some ⟨d, 0, none⟩), .int .i64 1, .int .i64 40] W (SGood W d l m K))
    (hK : ∀ s1, K s1 → Vs s1 n I ∧ (Fs.inoAt (nv s1) 1).k = 2 ∧ (Fs.inoAt (nv s1) 1).l ≠ 0 ∧ ∃ J, TidyJ n I J ∧ J 0 s1 ∧ ∀ s2, J I.toNat s2 → ssyncE s2 = 0 ∧ K2 (ssync s2)) :
    Calls Tryz.prog 23 #[.pointer (some ⟨d, 0, none⟩)] w (VGood w d l m n I K2) := by
  have HDN := Lib.hid (down_any h)
  rw [hc.up] at HDN
  have HLD : Hid (d < w.heap.size ∧ l < w.heap.size ∧ m < w.heap.size) := Lib.hid ⟨h.dlt, h.llt, h.mlt⟩
  have HP : Hid (Calls Tryz.prog 57 #[.pointer (some ⟨d, 0, none⟩)] w fun e w' => e = .returned (.tuple #[.agg #[.int .i64 n, .int .i64 I], .int .i64 0]) ∧ Below w.heap.size w w') := Lib.hid (planOf_yes h hc hn hp hpl)
  have HJN : Hid (∀ W, Calls Tryz.prog 59 #[.agg #[.int .i64 n, .int .i64 I]] W fun e w' => e = .returned (.int .i64 1) ∧ Below W.heap.size W w') := Lib.hid (fun W => by
    have := plJournal_any n I W
    rw [if_pos hpl] at this
    exact this)
  have HO := Lib.hid hO
  have HK := Lib.hid hK
  have HD := Lib.hid h
  clear h hc hn hp hpl hO hK
  have S0 := Lib.hid (Lo.start (L := [d, l, m]) w (by have := HLD.out; simp; omega))
  go_enter Tryz.func23, Tryz.ntmps23
  go_wp2_with (first
    | (go_at_call 52; (with_reducible refine HDN.out.mono ?_); rintro e w1 ⟨rfl, rfl⟩)
    | (go_at_call 57; (with_reducible refine HP.out.mono ?_); rintro e w1 ⟨rfl, hb⟩; have S1 := Lib.hid (S0.out.below hb); have HD1 := Lib.hid (HD.out.below hb); clear hb S0 HD)
    | ((with_reducible refine wpList_store_newrow (vs := [.int .i64 n, .int .i64 I]) planT2 ?_ (planL_one2 n I) rfl (.tmp 4) (.tmp 15) rfl rfl ?_ ?_ ?_); (exact rfl); (exact rfl); (exact rfl); intro W2 hP hB2 hz2; have S2 := Lib.hid (S1.out.made hP hB2 hz2); have HD2 := Lib.hid (HD1.out.below hB2); clear hP hB2 hz2 S1 HD1)
    | (with_reducible refine wpList_load_mid rfl 68 (.tmp 4) rfl _ 0 rfl [.int .i64 n, .int .i64 I] _ (S2.out.get 0 _ rfl).range Tryz.underlying68 rfl (by kernel_rfl) ?_)
    | (go_at_call 59; (with_reducible refine (HJN.out _).mono ?_); rintro e w3 ⟨rfl, hb⟩; replace S2 := Lib.hid (S2.out.below hb); replace HD2 := Lib.hid (HD2.out.below hb); clear hb))
  have hge2 := S2.out.only.size
  refine (HO.out _ HD2.out).mono ?_
  rintro e w4 ⟨b, s1, b1, b2, b3, g1, g2, g3, g4, rfl, hst, hk, ho⟩
  have S4 := Lib.hid (S2.out.call ho (fun k hk => hk))
  have HST := Lib.hid hst
  obtain ⟨hvs, hr1, hr2, J, hJ, hJ0, hJe⟩ := HK.out s1 hk
  clear S2 HD2 hst hk ho HO HK
  go_wp2_with (first
    | (with_reducible refine wpList_load_mid rfl 68 (.tmp 4) rfl _ 0 rfl [.int .i64 n, .int .i64 I] _ (S4.out.get 0 _ rfl).range Tryz.underlying68 rfl (by kernel_rfl) ?_))
  have HV5 : VolAt (w4.alloc (.cells (volL b.s n I 0).toArray 72)) w4.heap.size b s1 n I 0 := ⟨rowAt_new w4 (volL b.s n I 0) _, HST.out.alloc _, fun q => by have := HST.out.lt _ q; omega⟩
  have S5 := Lib.hid (S4.out.below (below_alloc w4 (.cells (volL b.s n I 0).toArray 72)))
  have hV4 := S4.out.only.size
  change Calls _ _ _ (w4.alloc (.cells (volL b.s n I 0).toArray 72)) _
  generalize w4.heap.size = V at HV5 hV4 ⊢
  generalize World.alloc _ _ = w5 at HV5 S5 ⊢
  refine (rooted_yes HV5 hvs hr1 hr2).mono ?_
  rintro e w6 ⟨rfl, hb⟩
  have HV6 := HV5.below hb
  have S6 := Lib.hid (S5.out.below hb)
  clear HV5 S5 hb S4 HST
  go_wp2_with fail
  refine (tidy_any HV6 J hJ hJ0).mono ?_
  rintro e w7 ⟨s2, hJ2, rfl, HV7, ho⟩
  obtain ⟨hE, hK2⟩ := hJe s2 hJ2
  rw [hE]
  go_wp2_with fail
  go_ret2
  refine ⟨V, b, ssync s2, b1, b2, b3, hV4, by omega, by omega, by omega, by omega, rfl, HV7, hK2, S6.out.only.via ho (fun i hi => ?_)⟩
  simp only [Blk.all, List.mem_cons, List.not_mem_nil, or_false] at hi ⊢
  rcases hi with rfl | rfl | rfl | rfl | rfl | rfl | rfl | rfl
  · right; exact hV4
  · right; omega
  · right; omega
  · left; exact Or.inl b1
  · left; exact Or.inr (Or.inl b2)
  · left; exact Or.inr (Or.inr b3)
  · right; omega
  · right; omega
end

section
open Go.RowKit Go.Maps
open Dk (zeros zeros_length)
open Ii (Ino)
open Hd (pageH)
open Jn (Chg Cl Quiet quietH)
structure FmtS (s : Sto) (n I : Int) : Prop where
  st : s = sto0 s.dk 1 40 37 1
  cl : Cl s.dk
  lim : s.dk.lim = false
  len : (s.dk.last.length : Int) = n
  head : s.dk.last.getD 1 [] = pageH (quietH 1)
  pages : ∀ i, i < s.dk.last.length → i ≠ 1 → s.dk.last.getD i [] = fmtP n I i
theorem FmtS.vs {s : Sto} {n I : Int} (h : FmtS s n I) (hpl : Pl.rightB n I = true) : Vs s n I := by
  obtain ⟨h1, h2, h3, h4⟩ := Pl.right_yes hpl
  have hd := Pl.data_bd h1 h2
  have hlen := h.len
  have hok : s.Ok := by
    rw [h.st]
    exact sto0_ok (by decide) (by decide) room40 (by decide) (by decide) (by decide) (by omega)
  exact ⟨⟨hok, by rw [h.st]; rfl, h.cl, by rw [h.st]; show (0 : Int) ≤ 1; decide, by rw [h.st]; exact h.head⟩, by rw [h.st]; rfl, by rw [h.st]; rfl, by rw [h.st]; rfl, h.len, hpl⟩
theorem FmtS.pg {s : Sto} {n I : Int} (h : FmtS s n I) (i : Nat) (hi : (i : Int) < n) (h1 : i ≠ 1) : nv s i = fmtP n I i := by
  have hlen := h.len
  rw [← h.pages i (by omega) h1]
  unfold Go.Proofs.YtmpfcgjjejlhdaaGreat.nv sheld
  have e1 : s.step = noPgs s.dk.last.length := by rw [h.st]; rfl
  have e2 : s.group = noPgs s.dk.last.length := by rw [h.st]; rfl
  rw [e1, e2, noPgs_at]; rfl
theorem FmtS.q {s : Sto} {n I : Int} (h : FmtS s n I) : s.q = 1 ∧ cntO s.group = 0 := by
  constructor
  · rw [h.st]; rfl
  · have e2 : s.group = noPgs s.dk.last.length := by rw [h.st]; rfl
    rw [e2, cntO_no]
theorem FmtS.sync {s : Sto} {n I : Int} (h : FmtS s n I) : ssyncE s = 0 ∧ ssync s = s := by
  have hup : ¬ s.over = true := by rw [h.st]; simp [sto0]
  constructor
  · unfold ssyncE; rw [if_neg hup, if_pos h.q.2]
  · unfold ssync; rw [if_neg hup, if_pos h.q.2]
theorem root_get : Ii.getI rootP 0 = rootI := by kernel_rfl
theorem root_other : (Ii.getI rootP 32).k = 0 := by decide
theorem zero_get : (Ii.getI zeros 0).k = 0 ∧ (Ii.getI zeros 32).k = 0 := by decide
theorem FmtS.inode {s : Sto} {n I : Int} (h : FmtS s n I) (hpl : Pl.rightB n I = true) (i : Int) (h1 : 1 ≤ i) (h2 : i ≤ I) : Fs.inoAt (nv s) i = if i = 1 then rootI else Ii.zero := by
  obtain ⟨r1, r2, r3, r4⟩ := Pl.right_yes hpl
  have hd := Pl.data_bd r1 r2
  have hdn : Pl.dataN I = 43 + (I + 1) / 2 := rfl
  have ht : Fs.tbl i = 43 + ((i - 1) / 2).toNat := by unfold Fs.tbl; omega
  have hp : nv s (Fs.tbl i) = if (i - 1) / 2 = 0 then rootP else zeros := by
    rw [h.pg (Fs.tbl i) (by rw [ht]; omega) (by rw [ht]; omega)]
    unfold fmtP
    rw [if_neg (by rw [ht]; omega), if_neg (by rw [ht]; omega)]
    by_cases c : (i - 1) / 2 = 0
    · rw [if_pos (by rw [ht]; omega), if_pos c]
    · rw [if_neg (by rw [ht]; omega), if_neg c]
  have hh : Fs.halfAt i = 0 ∨ Fs.halfAt i = 32 := by unfold Fs.halfAt; omega
  unfold Fs.inoAt
  rw [hp]
  by_cases c1 : i = 1
  · subst c1
    have hz0 : ((1 : Int) - 1) / 2 = 0 := by decide
    have e : Fs.halfAt 1 = 0 := by decide
    rw [if_pos hz0, e, root_get, if_neg (show ¬ rootI.k = 0 by decide), if_pos rfl]
  · rw [if_neg c1]
    by_cases c : (i - 1) / 2 = 0
    · rw [if_pos c]
      have e : Fs.halfAt i = 32 := by unfold Fs.halfAt; omega
      rw [e, if_pos root_other]
    · rw [if_neg c]
      rcases hh with e | e <;> rw [e]
      · rw [if_pos zero_get.1]
      · rw [if_pos zero_get.2]
theorem fmt_open {w : World} {d l m : Nat} {s : Dk.St} {n I : Int} (h : DiskAt w d l m s) (hf : Fmt s n I) (hpl : Pl.rightB n I = true) : Calls Tryz.prog 58 #[.pointer (some ⟨d, 0, none⟩), .int .i64 1, .int .i64 40] w (SGood w d l m (fun s1 => FmtS s1 n I)) := by
  obtain ⟨r1, r2, r3, r4⟩ := Pl.right_yes hpl
  have hd := Pl.data_bd r1 r2
  have hlen := hf.len
  have hp1 : s.last.getD 1 [] = zeros := by rw [hf.pages 1 (by omega)]; rfl
  have hq : Quiet 1 40 0 s.last s.last := by
    refine ⟨rfl, ?_, ?_, fun i hi => rfl⟩
    · rw [hp1]; exact ⟨zeros_length, by rw [zeros_front]; exact Int.le_refl _, by rw [zeros_back]; exact Int.le_refl _⟩
    · rw [hp1]; exact zeros_quiet
  have ho := openQ_any (a := 1) (z := 40) (r := 37) h hf.cl hq (Int.le_refl 0) (by omega) (by omega) (by omega) (by omega) room40 (by omega) (by omega)
  have hn : Hd.nextN [s.last.getD 1 []] = 1 := by rw [hp1]; exact zeros_next
  rcases Jn.openQ (a := 1) (z := 40) hf.cl hq (by omega) (by omega) (Int.le_refl 0) (by omega) with ⟨e1, e2, e3, e4, e5⟩ | ⟨_, e, _⟩
  · rw [hn] at ho e1 e2 e4 e5
    have hl2 : (Jn.runs s [[⟨((1 : Nat) : Int), pageH (quietH 1)⟩]]).1.last.length = s.last.length := by rw [e4, List.length_set]
    refine (sopen_any (r := 37) ⟨h.dlt, h.llt, h.mlt⟩ (by rw [hl2]; omega) (by omega) (by omega) room40 (by omega) (by omega) (by decide) ho).mono ?_
    rintro e w' ⟨k1, k2, k3⟩
    rcases k3 with ⟨_, b, cnt, q, b1, b2, b3, b4, b5, b6, b7, k4, ⟨rfl, rfl⟩, k6⟩ | ⟨k4, _⟩
    · refine ⟨b, _, b1, b2, b3, b4, b5, b6, b7, k4, k6, ⟨rfl, e2, ?_, ?_, ?_, ?_⟩, k2⟩
      · exact e5.trans hf.lim
      · show ((Jn.runs s _).1.last.length : Int) = n
        rw [hl2, hlen]
      · show (Jn.runs s _).1.last.getD 1 [] = _
        rw [e4, List.getD_eq_getElem?_getD, List.getElem?_set_self (by omega)]; rfl
      · intro i hi h1
        show (Jn.runs s _).1.last.getD i [] = _
        have hi2 : i < s.last.length := by rw [← hl2]; exact hi
        rw [e4, List.getD_eq_getElem?_getD, List.getElem?_set_ne (fun q => h1 q.symm), ← List.getD_eq_getElem?_getD]
        exact hf.pages i hi2
    · exact absurd e1 k4
  · rw [hf.lim] at e; cases e
theorem fmt_mount {w : World} {d l m : Nat} {s : Dk.St} {n I : Int} (h : DiskAt w d l m s) (hf : Fmt s n I) (hpl : Pl.rightB n I = true) : Calls Tryz.prog 23 #[.pointer (some ⟨d, 0, none⟩)] w (VGood w d l m n I (fun s1 => FmtS s1 n I)) := by
  obtain ⟨r1, r2, r3, r4⟩ := Pl.right_yes hpl
  have hd := Pl.data_bd r1 r2
  have hlen := hf.len
  refine mount_any h hf.cl hf.len (by rw [hf.pages 0 (by omega)]; rfl) hpl (fun s1 => FmtS s1 n I) (fun s1 => FmtS s1 n I) (fun W hW => fmt_open hW hf hpl) (fun s1 h1 => ?_)
  have hi1 := h1.inode hpl 1 (by omega) r1
  rw [if_pos rfl] at hi1
  refine ⟨h1.vs hpl, by rw [hi1]; rfl, by rw [hi1]; decide, fun _ s2 => s2 = s1, ⟨fun k s2 hs => ?_, fun k s2 hs _ _ => hs, fun k s2 hs hk => ?_⟩, rfl, fun s2 hs => ?_⟩
  · subst hs
    exact ⟨h1.vs hpl, by rw [h1.q.1]; decide⟩
  · subst hs
    have hi := h1.inode hpl ((k : Int) + 1) (by omega) hk
    rw [hi]
    by_cases c : (k : Int) + 1 = 1
    · rw [if_pos c]
      exact Or.inr (by decide)
    · rw [if_neg c]
      exact Or.inl rfl
  · subst hs
    obtain ⟨e1, e2⟩ := h1.sync
    rw [e2]
    exact ⟨e1, h1⟩
theorem lawFresh_any (w : World) (N : Nat) (I : Int) (hpl : Pl.rightB (N : Int) I = true) : Calls Tryz.prog 7 #[.int .i64 (N : Int), .int .i64 I] w fun e w' => ∃ (V : Nat) (b : Blk) (s : Sto), e = .returned (.tuple #[.pointer (some ⟨V, 0, none⟩), .pointer (some ⟨b.d, 0, none⟩)]) ∧ VolAt w' V b s (N : Int) I 0 ∧ FmtS s (N : Int) I ∧ Below w.heap.size w w' ∧ w.heap.size ≤ V ∧ ∀ k ∈ b.all, w.heap.size ≤ k := by
  obtain ⟨r1, r2, r3, r4⟩ := Pl.right_yes hpl
  have hd := Pl.data_bd r1 r2
  have HN := Lib.hid (new_any N w (by omega) (by omega))
  have HF := Lib.hid (format_new (newWorld_disk w N (by omega) (by omega)) hpl)
  have HBW := Lib.hid (newWorld_below w N)
  have HSZ := Lib.hid (newWorld_size w N)
  go_enter Tryz.func7, Tryz.ntmps7
  go_wp2_with (go_at_call 21; (with_reducible refine HN.out.mono ?_); rintro e w1 ⟨rfl, rfl⟩)
  refine HF.out.mono ?_
  rintro e w2 ⟨rfl, ho2, s, hf, hd2⟩
  have HM := Lib.hid (fmt_mount hd2 hf hpl)
  go_wp2_with fail
  refine HM.out.mono ?_
  rintro e w3 ⟨V, b, s1, b1, b2, b3, g1, g2, g3, g4, g5, rfl, hv, hs, ho3⟩
  go_wp2_with fail
  go_ret2
  have hz := HSZ.out
  have hz2 := ho2.size
  refine ⟨V, b, s1, by rw [b1]; rfl, hv, hs, Only.toBelowOld HBW.out (ho2.trans ho3) (by omega) (by simp), by omega, fun k hk => ?_⟩
  simp only [Blk.all, List.mem_cons, List.not_mem_nil, or_false] at hk
  rcases hk with rfl | rfl | rfl | rfl | rfl | rfl | rfl <;> omega
end

section
open Go.RowKit Go.Maps
open Dk (zeros zeros_length)
open Hd (Head rightB pageH)
open Jn (Chg quietH liveH Cl Quiet LiveD May Same upd)
theorem upd_atF (cs : List Chg) : ∀ (L : List (List UInt8)) (c : Chg), cs.Pairwise (fun x y => x.no < y.no) → (∀ x ∈ cs, 0 ≤ x.no) → c ∈ cs → c.no.toNat < L.length → (upd L cs).getD c.no.toNat [] = c.page := by
  induction cs with
  | nil => intro L c _ _ hc; cases hc
  | cons x r ih =>
    intro L c hp h0 hc hl
    obtain ⟨p1, p2⟩ := List.pairwise_cons.1 hp
    show (upd (L.set x.no.toNat x.page) r).getD c.no.toNat [] = _
    rcases List.mem_cons.1 hc with rfl | hc
    · rw [Jn.upd_other _ _ _ (fun y hy => by have := p1 y hy; have := h0 c (by simp); have := h0 y (by simp [hy]); omega), List.getD_eq_getElem?_getD, List.getElem?_set_self hl]; rfl
    · exact ih _ c p2 (fun y hy => h0 y (by simp [hy])) hc (by rw [List.length_set]; exact hl)
def gv (s : Sto) (i : Nat) : List UInt8 := (s.group.getD i none).getD (s.dk.last.getD i [])
theorem upd_gv (s : Sto) (h : s.Ok) (i : Nat) : (upd s.dk.last (chgs s.group)).getD i [] = gv s i := by
  unfold gv
  cases e : s.group.getD i none with
  | some p =>
    have hm : (⟨(i : Int), p⟩ : Chg) ∈ chgs s.group := chgs_mem.2 ⟨i, rfl, e⟩
    have := upd_atF (chgs s.group) s.dk.last ⟨(i : Int), p⟩ (chgs_pw _) (fun x hx => by obtain ⟨k, hk, _⟩ := chgs_mem.1 hx; omega) hm (by
      show ((i : Int)).toNat < _
      rw [Int.toNat_natCast, ← h.glen]; exact pgs_lt e)
    exact this
  | none =>
    refine Jn.upd_other _ _ _ (fun c hc q => ?_)
    obtain ⟨k, hk, hk2⟩ := chgs_mem.1 hc
    rw [hk, Int.toNat_natCast] at q
    rw [q, e] at hk2
    cases hk2
theorem join_gv {s : Sto} (h : s.Ok) {i : Nat} : gv (sjoin s) i = nv s i := by
  unfold gv nv
  show ((joinP s.group s.step).getD i none).getD (s.dk.last.getD i []) = _
  by_cases hi : i < s.group.length
  · rw [joinP_at _ _ _ hi]; rfl
  · have e1 : (joinP s.group s.step).getD i none = none := by
      rw [List.getD_eq_getElem?_getD, List.getElem?_eq_none (by rw [joinP_length]; omega)]; rfl
    have e2 : sheld s i = none := by
      unfold sheld
      rw [List.getD_eq_getElem?_getD, List.getElem?_eq_none (by rw [h.slen, ← h.glen]; omega), List.getD_eq_getElem?_getD, List.getElem?_eq_none (l := s.group) (by omega)]; rfl
    rw [e1, e2]
def Idle (s : Sto) : Prop := s.step = noPgs s.dk.last.length
theorem idle_nv {s : Sto} (h : Idle s) (i : Nat) : nv s i = gv s i := by
  unfold nv gv sheld
  rw [h, noPgs_at]; rfl
theorem idle_drop {s : Sto} (h : Idle s) : sdrop s = s := by
  unfold sdrop
  rw [← h]
def Out (n : Int) (i : Nat) : Prop := (i : Int) < n ∧ (i = 0 ∨ 41 ≤ i)
structure Calm (s : Sto) (n I : Int) (k : Nat) : Prop where
  vs : Vs s n I
  idle : Idle s
  q : s.q ≤ 1 + 2 * (k : Int)
  lim : s.dk.lim = false
theorem Goes.keeps {s s' : Sto} {L : List Nat} (g : Goes s s' L) : s'.dk = s.dk ∧ s'.group = s.group ∧ s'.q = s.q ∧ s'.over = s.over ∧ s'.r = s.r := by
  rw [g.same]
  exact ⟨rfl, rfl, rfl, rfl, rfl⟩
theorem FmtS.calm {s : Sto} {n I : Int} (h : FmtS s n I) (hpl : Pl.rightB n I = true) : Calm s n I 0 :=
  ⟨h.vs hpl, by unfold Idle; rw [h.st]; rfl, by rw [h.q.1]; decide, h.lim⟩
theorem count_or {α : Type} (p q : α → Bool) : ∀ l : List α, l.countP (fun i => p i || q i) ≤ l.countP p + l.countP q
  | [] => by simp
  | x :: r => by
    have := count_or p q r
    rw [List.countP_cons, List.countP_cons, List.countP_cons]
    cases p x <;> cases q x <;> simp <;> omega
theorem count_one (x : Nat) : ∀ N, (List.range N).countP (fun i => i == x) ≤ (if x < N then 1 else 0)
  | 0 => by simp
  | N + 1 => by
    have := count_one x N
    rw [List.range_succ, List.countP_append, List.countP_singleton]
    by_cases c : N = x
    · subst c
      rw [if_neg (by omega)] at this
      simp; omega
    · have e : (N == x) = false := by simpa using c
      rw [e]
      simp only [Bool.false_eq_true, if_false]
      by_cases d : x < N
      · rw [if_pos d] at this; rw [if_pos (show x < N + 1 by omega)]; omega
      · rw [if_neg d] at this; rw [if_neg (show ¬ x < N + 1 by omega)]; omega
theorem count_ins (N : Nat) : ∀ L : List Nat, (List.range N).countP (fun i => L.contains i) ≤ L.length
  | [] => by simp
  | x :: L => by
    have h1 := count_ins N L
    have h2 := count_or (fun i => i == x) (fun i => L.contains i) (List.range N)
    have h3 := count_one x N
    have e : (fun i => (x :: L).contains i) = fun i => (i == x) || L.contains i := by
      funext i
      rw [List.contains_cons]
    rw [e, List.length_cons]
    split at h3 <;> omega
theorem cntU_le (N : Nat) (L : List Nat) : Fs.cntU (noPgs N) L ≤ L.length := by
  unfold Fs.cntU
  have e : (noPgs N).length = N := by unfold noPgs; simp
  rw [e]
  have h1 : (List.range N).countP (fun i => ((noPgs N).getD i none).isSome || L.contains i) = (List.range N).countP (fun i => L.contains i) := by
    congr 1
    funext i
    rw [noPgs_at]; rfl
  rw [h1]
  exact count_ins N L
end

namespace Fs
open Dk (zeros zeros_length)
open Ii (Ino)
section
variable {α β : Type} {n : Int}
end
section
variable {n I : Int} (hpl : Pl.rightB n I = true)
include hpl
end
end Fs

section
open Go.RowKit Go.Maps
open Dk (zeros zeros_length)
open Ii (Ino)
end

section
open Go.RowKit Go.Maps
open Dk (zeros zeros_length)
open Ii (Ino)
end

section
open Go.ChangeShapes Go.WideShapes Go.ChangeAt Go.RowKit
open Dk (zeros zeros_length)
open Ii (Ino)
end

section
open Go.RowKit Go.Maps
open Dk (zeros zeros_length)
open Ii (Ino)
namespace Fs
end Fs
end

namespace Fs
open Dk (zeros zeros_length)
open Ii (Ino)
def Cov (L D : List Nat) : Prop := ∀ i ∈ L, i = 0 ∨ i = 42 ∨ i ∈ D
def Cv {α : Type} (m : M α) (V : View) (k : Nat) : Prop := ∃ D, D.length ≤ k ∧ Cov (m V).2.2 D
theorem Cov.nil (D : List Nat) : Cov [] D := fun _ h => by cases h
theorem Cov.mono {L D D' : List Nat} (h : Cov L D) (hs : ∀ i ∈ D, i = 0 ∨ i = 42 ∨ i ∈ D') : Cov L D' := fun i hi => by
  rcases h i hi with q | q | q
  · exact Or.inl q
  · exact Or.inr (Or.inl q)
  · exact hs i q
theorem Cov.app {L L' D : List Nat} (h : Cov L D) (h' : Cov L' D) : Cov (L ++ L') D := fun i hi => by
  rcases List.mem_append.1 hi with q | q
  · exact h i q
  · exact h' i q
section
variable {α β : Type} {V : View}
theorem Cv.mono {m : M α} {k k' : Nat} (h : Cv m V k) (hk : k ≤ k') : Cv m V k' := by
  obtain ⟨D, h1, h2⟩ := h
  exact ⟨D, Nat.le_trans h1 hk, h2⟩
theorem Cv.andThen {m : M α} {f : α → M β} {k k' : Nat} (h : Cv m V k) (hf : ∀ a V1 L1, m V = (.ok a, V1, L1) → Cv (f a) V1 k') : Cv (andThen m f) V (k + k') := by
  obtain ⟨D, h1, h2⟩ := h
  rcases e : m V with ⟨r, V1, L1⟩
  rw [e] at h2
  cases r with
  | error er => exact ⟨D, by omega, by rw [andThen_err e]; exact h2⟩
  | ok a =>
    obtain ⟨D', h3, h4⟩ := hf a V1 L1 e
    refine ⟨D ++ D', by rw [List.length_append]; omega, ?_⟩
    rw [andThen_ok e]
    exact (h2.mono fun i hi => Or.inr (Or.inr (List.mem_append_left _ hi))).app (h4.mono fun i hi => Or.inr (Or.inr (List.mem_append_right _ hi)))
theorem cv_nil {m : M α} (h : (m V).2.2 = []) : Cv m V 0 := ⟨[], Nat.le_refl _, by rw [h]; exact Cov.nil _⟩
theorem cv_ret (a : α) : Cv (ret a) V 0 := cv_nil rfl
theorem cv_fail (e : Int) : Cv (fail e : M α) V 0 := cv_nil rfl
theorem cv_tell (f : View → Except Int α) : Cv (tell f) V 0 := cv_nil rfl
theorem cv_wr (i : Nat) (p : List UInt8) : Cv (wr i p) V 1 := ⟨[i], Nat.le_refl _, fun j hj => Or.inr (Or.inr hj)⟩
theorem cv_mark (at1 : Nat) (bit : Int) (on1 : Bool) : Cv (markM at1 bit on1) V 1 := cv_wr _ _
theorem cv_setI (i : Int) (x : Ino) : Cv (setI i x) V 1 := by
  by_cases c : Ii.putN (V (tbl i)) (halfAt i) x = V (tbl i)
  · exact ⟨[], Nat.zero_le _, by rw [show setI i x V = ret () V from if_pos c]; exact Cov.nil _⟩
  · exact ⟨[tbl i], Nat.le_refl _, by rw [show setI i x V = wr (tbl i) (Ii.putN (V (tbl i)) (halfAt i) x) V from if_neg c]; exact fun j hj => Or.inr (Or.inr hj)⟩
theorem cv_ite {c : Prop} [Decidable c] {m m' : M α} {k : Nat} (h1 : c → Cv m V k) (h2 : ¬ c → Cv m' V k) : Cv (if c then m else m') V k := by
  split
  · exact h1 ‹_›
  · exact h2 ‹_›
end
theorem cv_right (n I : Int) (x : Ino) (V : View) : Cv (rightM n I x) V 0 := by
  unfold rightM
  exact cv_ite (fun _ => cv_fail _) fun _ => cv_ret _
theorem cv_new (n I : Int) (x : Ino) (V : View) : Cv (newM n I x) V 2 := by
  unfold newM
  exact (cv_right n I _ V).andThen (k' := 2) fun y V1 _ _ => (cv_tell _).andThen (k' := 2) fun i V2 _ _ => (cv_setI _ _).andThen (k' := 1) fun _ V3 _ _ => (cv_mark _ _ _).andThen (k' := 0) fun _ _ _ _ => cv_ret _
section
variable {n I : Int} {V : View}
end
def Z (p : List UInt8) (k : Nat) : Prop := p.length = 64 ∧ ∀ j, j < 2 * k → p[j]? = some 0
section
variable {n I : Int} (hd : 44 ≤ Pl.dataN I)
include hd
end
end Fs

namespace Fs
open Dk (zeros zeros_length)
open Ii (Ino)
theorem numN_zeros (k : Int) : numN zeros k = 0 := by
  unfold numN
  split
  · rename_i h
    have hk : k = ((k.toNat : Nat) : Int) := by omega
    have : ∀ j : Nat, j < 32 → Pg.getN zeros (2 * (j : Int)) 2 = 0 := by decide
    rw [hk]
    exact this k.toNat (by omega)
  · rfl
theorem numN_set (p : List UInt8) (hp : p.length = 64) (k : Nat) (hk : k < 32) (m : Int) (h0 : 0 ≤ m) (h1 : m < 65536) (j : Nat) (hj : j < 32) : numN (setNum p (k : Int) m) (j : Int) = if j = k then m else numN p (j : Int) := by
  have es : setNum p (k : Int) m = Pg.over p (2 * k) (Pg.bytesN 2 m) := by
    unfold setNum Pg.setN
    rw [if_pos (by omega), if_pos (Pg.num_mk (by omega) (by omega) (by omega) (by omega))]
    rw [show (2 * (k : Int)).toNat = 2 * k by omega]
    rfl
  have eg : ∀ q : List UInt8, numN q (j : Int) = Pg.numOf ((q.drop (2 * j)).take 2) := fun q => by
    unfold numN Pg.getN
    rw [if_pos (by omega), if_pos (Pg.num_mk (by omega) (by omega) (by omega) (by omega))]
    rw [show (2 * (j : Int)).toNat = 2 * j by omega]
    rfl
  rw [eg, es, eg]
  by_cases e : j = k
  · subst e
    have hb := Pg.over_back p (2 * j) (Pg.bytesN 2 m) (by rw [Pg.bytesN_length]; omega)
    rw [Pg.bytesN_length] at hb
    rw [if_pos rfl, hb, Pg.numOf_bytesN]
    exact Int.emod_eq_of_lt h0 h1
  · rw [if_neg e, Ii.over_apart p (2 * k) (Pg.bytesN 2 m) (2 * j) 2 (by rw [Pg.bytesN_length]; omega) (by rw [Pg.bytesN_length]; omega)]
def nm (x : Ino) (V : View) (j : Nat) : Int := if j < 4 then x.dir j else if x.e = 0 then 0 else numN (V x.e.toNat) ((j : Int) - 4)
structure Fl (n I : Int) (x : Ino) (V : View) (u : Nat) (P : Nat → List UInt8) : Prop where
  lo : 44 ≤ Pl.dataN I
  hi : n ≤ 512
  ub : Pl.dataN I + (u : Int) ≤ n
  f0 : x.f = 0
  bl : (V 42).length = 64
  bt : ∀ b, b < 512 → Bt.bit (V 42) b = decide (b < u)
  e : x.e = 0 ∨ (Pl.dataN I ≤ x.e ∧ x.e < Pl.dataN I + u)
  el : x.e ≠ 0 → (V x.e.toNat).length = 64
  num : ∀ j, j < 36 → nm x V j = 0 ∨ (Pl.dataN I ≤ nm x V j ∧ nm x V j < Pl.dataN I + u)
  ne : ∀ j, j < 36 → nm x V j ≠ 0 → nm x V j ≠ x.e
  inj : ∀ j k, j < 36 → k < 36 → j ≠ k → nm x V j ≠ 0 → nm x V j ≠ nm x V k
  pg : ∀ j, j < 36 → P j = if nm x V j = 0 then zeros else V (nm x V j).toNat
  pl : ∀ j, j < 36 → (P j).length = 64
  cnt : u = (if x.e = 0 then 0 else 1) + (List.range 36).countP fun j => decide (nm x V j ≠ 0)
variable {n I : Int} {x : Ino} {V : View} {u : Nat} {P : Nat → List UInt8}
theorem Fl.isE (h : Fl n I x V u P) (he : x.e ≠ 0) : isData n I x.e := by
  have := h.ub
  rcases h.e with e | e
  · exact absurd e he
  · exact ⟨e.1, by omega⟩
theorem Fl.isN (h : Fl n I x V u P) (j : Nat) (hj : j < 36) (hn : nm x V j ≠ 0) : isData n I (nm x V j) := by
  have := h.ub
  rcases h.num j hj with e | e
  · exact absurd e hn
  · exact ⟨e.1, by omega⟩
theorem Fl.find (h : Fl n I x V u P) (j : Nat) (hj : j < 36) : findF n I x (j : Int) V = .ok (nm x V j) := by
  unfold findF
  by_cases h4 : j < 4
  · obtain ⟨e1, e2, e3, e4⟩ := Sp.page0 (i := (j : Int)) (by omega) (by omega)
    unfold placesN firstN nm
    rw [if_pos e1, if_pos e2, if_pos e1, if_pos e2, e4, if_pos h4]
    rfl
  · obtain ⟨e1, e2, e3, e4⟩ := Sp.page1 (i := (j : Int)) (by omega) (by omega)
    unfold placesN firstN nm
    rw [if_pos e1, if_neg (by rw [e2]; decide), if_pos e2, if_pos e1, if_neg (by rw [e2]; decide), if_pos e2, e4, if_neg h4]
    show (match dataF n I x.e V with | .ok p => Except.ok (numN p ((j : Int) - 4)) | .error e => .error e) = _
    unfold dataF
    by_cases he : x.e = 0
    · rw [if_pos he, if_pos he]
      simp only
      rw [numN_zeros]
    · rw [if_neg he, if_pos (h.isE he), if_neg he]
theorem Fl.page (h : Fl n I x V u P) (j : Nat) (hj : j < 36) : pageF n I x (j : Int) V = .ok (P j) := by
  unfold pageF
  rw [h.find j hj, h.pg j hj]
  show dataF n I (nm x V j) V = _
  unfold dataF
  by_cases hn : nm x V j = 0
  · rw [if_pos hn, if_pos hn]
  · rw [if_neg hn, if_pos (h.isN j hj hn), if_neg hn]
theorem first_is (bs : List UInt8) (u : Nat) (b : Int) (hl : bs.length = 64) (hb : b ≤ 512) (hu : (u : Int) < b) (h : ∀ k, k < 512 → Bt.bit bs k = decide (k < u)) : Bt.first bs 0 b = (u : Int) := by
  refine Bt.first_some bs 0 b u ?_
  have h1 : Bt.upto bs false 0 b u = [] := Bt.upto_low _ _ _ _ _ (fun i hi => by
    rw [Bt.among_in _ _ _ _ _ (by omega) (by omega), h i (by omega)]
    simp [hi])
  have h2 : Bt.upto bs false 0 b (u + 1) = [u] := by
    rw [Bt.upto_yes _ _ _ _ _ (by
      rw [Bt.among_in _ _ _ _ _ (by omega) (by omega), h u (by omega)]
      simp), h1]
    rfl
  rw [← h2]
  exact Bt.upto_pre _ _ _ _ _ (by rw [hl]; omega)
def taken (I : Int) (V : View) (u : Nat) : View := upd (upd V 42 (Bt.setB (V 42) (u : Int) true)) (Pl.dataN I + (u : Int)).toNat zeros
theorem take_is (hl : (V 42).length = 64) (hb : ∀ k, k < 512 → Bt.bit (V 42) k = decide (k < u)) (hlo : 44 ≤ Pl.dataN I) (hn : n ≤ 512) (hu : Pl.dataN I + (u : Int) < n) :
    takeM n I V = (.ok (Pl.dataN I + (u : Int)), taken I V u, [42, (Pl.dataN I + (u : Int)).toNat]) := by
  have hf := first_is (V 42) u (n - Pl.dataN I) hl (by omega) (by omega) hb
  have e1 : (see fun V => Bt.first (V 42) 0 (n - Pl.dataN I)) V = (.ok (u : Int), V, []) := by
    show (Except.ok (Bt.first (V 42) 0 (n - Pl.dataN I)), V, []) = _
    rw [hf]
  unfold takeM
  rw [andThen_ok e1, if_neg (by omega)]
  rfl
theorem taken_far (I : Int) (V : View) (u : Nat) (h : 44 ≤ Pl.dataN I) (i : Nat) (h1 : i ≠ 42) (h2 : (i : Int) ≠ Pl.dataN I + (u : Int)) : taken I V u i = V i := by
  unfold taken upd
  rw [if_neg (by omega), if_neg h1]
theorem taken_new (I : Int) (V : View) (u : Nat) : taken I V u (Pl.dataN I + (u : Int)).toNat = zeros := by
  unfold taken upd
  rw [if_pos rfl]
theorem taken_42 (I : Int) (V : View) (u : Nat) (h : 44 ≤ Pl.dataN I) : taken I V u 42 = Bt.setB (V 42) (u : Int) true := by
  unfold taken upd
  rw [if_neg (by omega), if_pos rfl]
theorem taken_bits (I : Int) (V : View) (u : Nat) (h : 44 ≤ Pl.dataN I) (hl : (V 42).length = 64) (hu : u < 512) (hb : ∀ k, k < 512 → Bt.bit (V 42) k = decide (k < u)) :
    (taken I V u 42).length = 64 ∧ ∀ k, k < 512 → Bt.bit (taken I V u 42) k = decide (k < u + 1) := by
  rw [taken_42 I V u h, Bt.setB_length, Bt.setB_nat _ _ _ (by rw [hl]; omega)]
  refine ⟨hl, fun k hk => ?_⟩
  rw [Bt.bit_set _ _ _ _ (by rw [hl]; omega), hb k hk]
  by_cases e : u = k
  · rw [if_pos e]; symm; exact decide_eq_true (by omega)
  · rw [if_neg e, decide_eq_decide]; omega
end Fs

namespace Fs
open Dk (zeros zeros_length)
open Ii (Ino)
variable {n I : Int} {x : Ino} {V : View} {u : Nat} {P : Nat → List UInt8}
structure Same (n I : Int) (x y : Ino) (V W : View) : Prop where
  k : y.k = x.k
  p : y.p = x.p
  u : y.u = x.u
  l : y.l = x.l
  s : y.s = x.s
  low : ∀ i : Nat, i ≠ 42 → (i : Int) < Pl.dataN I → W i = V i
theorem Same.refl (n I : Int) (x : Ino) (V : View) : Same n I x x V V := ⟨rfl, rfl, rfl, rfl, rfl, fun _ _ _ => rfl⟩
theorem Same.trans {y z : Ino} {W X : View} (a : Same n I x y V W) (b : Same n I y z W X) : Same n I x z V X :=
  ⟨b.k.trans a.k, b.p.trans a.p, b.u.trans a.u, b.l.trans a.l, b.s.trans a.s, fun i h1 h2 => (b.low i h1 h2).trans (a.low i h1 h2)⟩
theorem Same.taken (h : 44 ≤ Pl.dataN I) : Same n I x x V (taken I V u) := ⟨rfl, rfl, rfl, rfl, rfl, fun i h1 h2 => taken_far I V u h i h1 (by omega)⟩
theorem Same.upd {m : Int} (hm : isData n I m) (h : 44 ≤ Pl.dataN I) (q : List UInt8) : Same n I x x V (upd V m.toNat q) :=
  ⟨rfl, rfl, rfl, rfl, rfl, fun i h1 h2 => by
    unfold Fs.upd
    rw [if_neg (by have := hm.1; omega)]⟩
theorem setDir_dir (x : Ino) (k : Nat) (m : Int) (hk : k < 4) (j : Nat) (hj : j < 4) : (setDir x k m).dir j = if j = k then m else x.dir j := by
  have h1 : k = 0 ∨ k = 1 ∨ k = 2 ∨ k = 3 := by omega
  have h2 : j = 0 ∨ j = 1 ∨ j = 2 ∨ j = 3 := by omega
  rcases h1 with rfl | rfl | rfl | rfl <;> rcases h2 with rfl | rfl | rfl | rfl <;> rfl
theorem setDir_rest (x : Ino) (k : Nat) (m : Int) (hk : k < 4) : (setDir x k m).e = x.e ∧ (setDir x k m).f = x.f ∧ (setDir x k m).k = x.k ∧ (setDir x k m).p = x.p ∧ (setDir x k m).u = x.u ∧ (setDir x k m).l = x.l ∧ (setDir x k m).s = x.s := by
  have h1 : k = 0 ∨ k = 1 ∨ k = 2 ∨ k = 3 := by omega
  rcases h1 with rfl | rfl | rfl | rfl <;> exact ⟨rfl, rfl, rfl, rfl, rfl, rfl, rfl⟩
theorem Fl.grow (h : Fl n I x V u P) {y : Ino} {W : View} (j : Nat) (hj : j < 36) (h0 : nm x V j = 0) (hu : Pl.dataN I + (u : Int) < n)
    (he : y.e = x.e) (hf : y.f = x.f) (hW : ∀ i : Nat, i ≠ 42 → (i : Int) ≠ Pl.dataN I + (u : Int) → (i : Int) ≠ x.e → W i = V i) (hE : x.e ≠ 0 → (W x.e.toNat).length = 64)
    (h42 : (W 42).length = 64 ∧ ∀ b, b < 512 → Bt.bit (W 42) b = decide (b < u + 1)) (hz : W (Pl.dataN I + (u : Int)).toNat = zeros)
    (hn : ∀ k, k < 36 → nm y W k = if k = j then Pl.dataN I + (u : Int) else nm x V k) : Fl n I y W (u + 1) P := by
  have hlo := h.lo
  have hnew : Pl.dataN I + (u : Int) ≠ 0 := by omega
  have hold : ∀ k, k < 36 → nm x V k ≠ Pl.dataN I + (u : Int) := fun k hk e => by
    rcases h.num k hk with e2 | e2 <;> omega
  have heold : x.e ≠ Pl.dataN I + (u : Int) := by
    rcases h.e with e2 | e2 <;> omega
  refine ⟨h.lo, h.hi, by omega, by rw [hf]; exact h.f0, h42.1, h42.2, ?_, ?_, ?_, ?_, ?_, ?_, h.pl, ?_⟩
  · rw [he]
    rcases h.e with e2 | e2
    · exact Or.inl e2
    · exact Or.inr ⟨e2.1, by omega⟩
  · rw [he]; exact hE
  · intro k hk
    rw [hn k hk]
    split
    · right; constructor <;> omega
    · rcases h.num k hk with e2 | e2
      · exact Or.inl e2
      · exact Or.inr ⟨e2.1, by omega⟩
  · intro k hk
    rw [hn k hk, he]
    split
    · intro _ e; exact heold e.symm
    · exact h.ne k hk
  · intro a b ha hb hab
    rw [hn a ha, hn b hb]
    by_cases e1 : a = j
    · rw [if_pos e1, if_neg (by omega)]
      intro _ e
      exact hold b hb e.symm
    · rw [if_neg e1]
      by_cases e2 : b = j
      · rw [if_pos e2]
        intro _
        exact hold a ha
      · rw [if_neg e2]
        exact h.inj a b ha hb hab
  · intro k hk
    rw [hn k hk, h.pg k hk]
    by_cases e1 : k = j
    · rw [if_pos e1, if_neg hnew, e1, if_pos h0, hz]
    · rw [if_neg e1]
      by_cases e2 : nm x V k = 0
      · rw [if_pos e2, if_pos e2]
      · rw [if_neg e2, if_neg e2]
        have hd := h.isN k hk e2
        have := hd.1
        exact (hW _ (by omega) (by have := hold k hk; omega) (by have := h.ne k hk e2; rcases h.e with e3 | e3 <;> omega)).symm
  · have hc := count_more (fun k => decide (nm x V k ≠ 0)) (fun k => decide (k < 36 → nm y W k ≠ 0) && decide (k < 36) || (!decide (k < 36) && decide (nm x V k ≠ 0))) j (by simp [h0]) (by simp [hj, hn j hj, hnew]) (fun k hk => by
      by_cases hk36 : k < 36
      · simp [hk36, hn k hk36, hk]
      · simp [hk36]) 36 hj
    have hc2 : (List.range 36).countP (fun k => decide (nm y W k ≠ 0)) = (List.range 36).countP (fun k => decide (k < 36 → nm y W k ≠ 0) && decide (k < 36) || (!decide (k < 36) && decide (nm x V k ≠ 0))) := by
      apply List.countP_congr
      intro k hk
      rw [List.mem_range] at hk
      simp [hk]
    rw [hc2, hc, he, h.cnt]
    omega
theorem Fl.growE (h : Fl n I x V u P) (he : x.e = 0) (hu : Pl.dataN I + (u : Int) < n) : Fl n I { x with e := Pl.dataN I + (u : Int) } (taken I V u) (u + 1) P := by
  have hlo := h.lo
  have hnew : Pl.dataN I + (u : Int) ≠ 0 := by omega
  have hhi := h.hi
  have hb := taken_bits I V u h.lo h.bl (by omega) h.bt
  have hn : ∀ k, k < 36 → nm { x with e := Pl.dataN I + (u : Int) } (taken I V u) k = nm x V k := fun k _ => by
    unfold nm
    by_cases h4 : k < 4
    · rw [if_pos h4, if_pos h4]
      have : k = 0 ∨ k = 1 ∨ k = 2 ∨ k = 3 := by omega
      rcases this with rfl | rfl | rfl | rfl <;> rfl
    · rw [if_neg h4, if_neg h4, if_pos he, if_neg hnew]
      show numN (taken I V u (Pl.dataN I + (u : Int)).toNat) _ = 0
      rw [taken_new, numN_zeros]
  refine ⟨h.lo, h.hi, by omega, h.f0, hb.1, hb.2, Or.inr ⟨by show Pl.dataN I ≤ Pl.dataN I + (u : Int); omega, by show Pl.dataN I + (u : Int) < _; omega⟩, ?_, ?_, ?_, ?_, ?_, h.pl, ?_⟩
  · intro _
    show (taken I V u (Pl.dataN I + (u : Int)).toNat).length = 64
    rw [taken_new]
    exact zeros_length
  · intro k hk
    rw [hn k hk]
    rcases h.num k hk with e2 | e2
    · exact Or.inl e2
    · exact Or.inr ⟨e2.1, by omega⟩
  · intro k hk
    rw [hn k hk]
    intro h0
    show nm x V k ≠ Pl.dataN I + (u : Int)
    rcases h.num k hk with e2 | e2 <;> omega
  · intro a b ha hb hab
    rw [hn a ha, hn b hb]
    exact h.inj a b ha hb hab
  · intro k hk
    rw [hn k hk, h.pg k hk]
    by_cases e2 : nm x V k = 0
    · rw [if_pos e2, if_pos e2]
    · rw [if_neg e2, if_neg e2]
      have hd := h.isN k hk e2
      have := hd.1
      exact (taken_far I V u h.lo _ (by omega) (by rcases h.num k hk with e3 | e3 <;> omega)).symm
  · have hc2 : (List.range 36).countP (fun k => decide (nm { x with e := Pl.dataN I + (u : Int) } (taken I V u) k ≠ 0)) = (List.range 36).countP (fun k => decide (nm x V k ≠ 0)) := by
      apply List.countP_congr
      intro k hk
      rw [List.mem_range] at hk
      rw [hn k hk]
    rw [hc2]
    show u + 1 = (if Pl.dataN I + (u : Int) = 0 then 0 else 1) + _
    rw [if_neg hnew]
    have := h.cnt
    rw [if_pos he] at this
    omega
structure Lg (I : Int) (u u' c : Nat) (L : List Nat) : Prop where
  le : u ≤ u'
  few : u' ≤ u + c
  mem : ∀ i ∈ L, i = 42 ∨ (Pl.dataN I ≤ (i : Int) ∧ (i : Int) < Pl.dataN I + u')
theorem Lg.nil (I : Int) (u c : Nat) : Lg I u u c [] := ⟨Nat.le_refl _, Nat.le_add_right _ _, fun _ h => absurd h List.not_mem_nil⟩
theorem Lg.app {I : Int} {u u' u'' c c' : Nat} {L L' : List Nat} (h : Lg I u u' c L) (k : Lg I u' u'' c' L') : Lg I u u'' (c + c') (L ++ L') := by
  have h1 := h.le
  have h2 := h.few
  have k1 := k.le
  have k2 := k.few
  refine ⟨by omega, by omega, fun i hi => ?_⟩
  rcases List.mem_append.1 hi with hi | hi
  · rcases h.mem i hi with e | e
    · exact Or.inl e
    · exact Or.inr ⟨e.1, by omega⟩
  · exact k.mem i hi
theorem Lg.more {I : Int} {u u' c c' : Nat} {L : List Nat} (h : Lg I u u' c L) (hc : c ≤ c') : Lg I u u' c' L := ⟨h.le, by have := h.few; omega, h.mem⟩
theorem Lg.take {I : Int} (u : Nat) (h : 44 ≤ Pl.dataN I) : Lg I u (u + 1) 1 [42, (Pl.dataN I + (u : Int)).toNat] := by
  refine ⟨by omega, by omega, fun i hi => ?_⟩
  simp only [List.mem_cons, List.not_mem_nil, or_false] at hi
  rcases hi with rfl | rfl
  · exact Or.inl rfl
  · exact Or.inr (by omega)
theorem Lg.one {I m : Int} {u : Nat} (h : 44 ≤ Pl.dataN I) (hm : Pl.dataN I ≤ m ∧ m < Pl.dataN I + u) : Lg I u u 0 [m.toNat] := by
  refine ⟨by omega, by omega, fun i hi => ?_⟩
  obtain rfl := List.mem_singleton.1 hi
  exact Or.inr (by omega)
def Reached (n I : Int) (x : Ino) (V : View) (u : Nat) (P : Nat → List UInt8) (j : Nat) (o : Out (Ino × Int)) : Prop :=
  ∃ y m W L u', o = (.ok (y, m), W, L) ∧ Fl n I y W u' P ∧ nm y W j = m ∧ m ≠ 0 ∧ Same n I x y V W ∧ Lg I u u' 2 L ∧ L.length ≤ 5
theorem goR_one (h : Fl n I x V u P) (he : x.e ≠ 0) (j : Nat) (h4 : 4 ≤ j) (hj : j < 36) (hu : Pl.dataN I + (u : Int) < n) :
    ∃ m W L u', goR n I [(j : Int) - 4] x.e V = (.ok m, W, L) ∧ Fl n I x W u' P ∧ nm x W j = m ∧ m ≠ 0 ∧ Same n I x x V W ∧ Lg I u u' 1 L ∧ L.length ≤ 3 := by
  have hE := h.isE he
  have hlo := h.lo
  have hhi := h.hi
  have hnm : nm x V j = numN (V x.e.toNat) ((j : Int) - 4) := by
    unfold nm
    rw [if_neg (by omega), if_neg he]
  have e1 : (tell (dataF n I x.e)) V = (.ok (V x.e.toNat), V, []) := by
    show (dataF n I x.e V, V, []) = _
    unfold dataF
    rw [if_neg he, if_pos hE]
  have hgo : goR n I [(j : Int) - 4] x.e V = ((if numN (V x.e.toNat) ((j : Int) - 4) = 0 then andThen (takeM n I) fun t => andThen (wr x.e.toNat (setNum (V x.e.toNat) ((j : Int) - 4) t)) fun _ => goR n I [] t else goR n I [] (numN (V x.e.toNat) ((j : Int) - 4))) V) := by
    show andThen (tell (dataF n I x.e)) _ V = _
    rw [andThen_ok e1]
    simp only [List.nil_append]
  by_cases h0 : nm x V j = 0
  · have hk : (j : Int) - 4 = ((j - 4 : Nat) : Int) := by omega
    have ht := take_is (V := V) (u := u) h.bl h.bt h.lo h.hi hu
    have hb := taken_bits I V u h.lo h.bl (by omega) h.bt
    have hEu : x.e ≠ Pl.dataN I + (u : Int) := by rcases h.e with e2 | e2 <;> omega
    have hEl := h.el he
    refine ⟨Pl.dataN I + (u : Int), upd (taken I V u) x.e.toNat (setNum (V x.e.toNat) ((j : Int) - 4) (Pl.dataN I + (u : Int))), [42, (Pl.dataN I + (u : Int)).toNat] ++ [x.e.toNat], u + 1, ?_, ?_, ?_, by omega, ?_⟩
    · rw [hgo, if_pos (by rw [← hnm]; exact h0), andThen_ok ht]
      rfl
    · refine h.grow j hj h0 hu rfl rfl ?_ ?_ ?_ ?_ ?_
      · intro i h1 h2 h3
        unfold upd
        rw [if_neg (by have := hE.1; omega)]
        exact taken_far I V u h.lo i h1 h2
      · intro _
        unfold upd
        rw [if_pos rfl]
        exact setNum_length _ _ _ hEl
      · have : upd (taken I V u) x.e.toNat (setNum (V x.e.toNat) ((j : Int) - 4) (Pl.dataN I + (u : Int))) 42 = taken I V u 42 := by
          unfold upd
          rw [if_neg (by have := hE.1; omega)]
        rw [this]
        exact hb
      · have : upd (taken I V u) x.e.toNat (setNum (V x.e.toNat) ((j : Int) - 4) (Pl.dataN I + (u : Int))) (Pl.dataN I + (u : Int)).toNat = taken I V u (Pl.dataN I + (u : Int)).toNat := by
          unfold upd
          rw [if_neg (by have := hE.1; omega)]
        rw [this, taken_new]
      · intro k hk36
        unfold nm
        by_cases k4 : k < 4
        · rw [if_pos k4, if_pos k4, if_neg (by omega)]
        · rw [if_neg k4, if_neg k4, if_neg he, if_neg he]
          have : upd (taken I V u) x.e.toNat (setNum (V x.e.toNat) ((j : Int) - 4) (Pl.dataN I + (u : Int))) x.e.toNat = setNum (V x.e.toNat) ((j : Int) - 4) (Pl.dataN I + (u : Int)) := by
            unfold upd
            rw [if_pos rfl]
          rw [this, hk, show (k : Int) - 4 = ((k - 4 : Nat) : Int) by omega, numN_set _ hEl _ (by omega) _ (by omega) (by omega) _ (by omega)]
          by_cases e : k = j
          · rw [if_pos (by omega), if_pos e]
          · rw [if_neg (by omega), if_neg e]
    · unfold nm
      rw [if_neg (by omega), if_neg he]
      have : upd (taken I V u) x.e.toNat (setNum (V x.e.toNat) ((j : Int) - 4) (Pl.dataN I + (u : Int))) x.e.toNat = setNum (V x.e.toNat) ((j : Int) - 4) (Pl.dataN I + (u : Int)) := by
        unfold upd
        rw [if_pos rfl]
      rw [this, hk, numN_set _ hEl _ (by omega) _ (by omega) (by omega) _ (by omega), if_pos rfl]
    · refine ⟨(Same.taken h.lo).trans (Same.upd hE h.lo _), ?_, by simp⟩
      have hub := h.e
      exact (Lg.take u h.lo).app (Lg.one (m := x.e) h.lo (by omega))
  · refine ⟨nm x V j, V, [], u, ?_, h, rfl, h0, Same.refl .., Lg.nil .., Nat.zero_le _⟩
    rw [hgo, if_neg (by rw [← hnm]; exact h0), hnm]
    rfl
theorem Fl.reach (h : Fl n I x V u P) (j : Nat) (hj : j < 36) (hu : Pl.dataN I + (u : Int) + 2 ≤ n) : Reached n I x V u P j (reachM n I x (j : Int) V) := by
  have hlo := h.lo
  have hhi := h.hi
  have ht := take_is (V := V) (u := u) h.bl h.bt h.lo h.hi (by omega)
  have hb := taken_bits I V u h.lo h.bl (by omega) h.bt
  by_cases h4 : j < 4
  · obtain ⟨e1, e2, e3, e4⟩ := Sp.page0 (i := (j : Int)) (by omega) (by omega)
    have hf : firstN x (j : Int) = x.dir j := by
      unfold firstN
      rw [if_pos e1, if_pos e2, e4]
      rfl
    have hp : placesN (j : Int) = [] := by
      unfold placesN
      rw [if_pos e1, if_pos e2]
    have hnm : nm x V j = x.dir j := by unfold nm; rw [if_pos h4]
    unfold reachM
    rw [hf, hp]
    by_cases h0 : x.dir j = 0
    · rw [if_pos h0]
      have hs : setFirst x (j : Int) (Pl.dataN I + (u : Int)) = setDir x j (Pl.dataN I + (u : Int)) := by
        unfold setFirst
        rw [if_pos e2, e4]
        rfl
      obtain ⟨r1, r2, r3, r4, r5, r6, r7⟩ := setDir_rest x j (Pl.dataN I + (u : Int)) h4
      have hn : ∀ k, k < 36 → nm (setDir x j (Pl.dataN I + (u : Int))) (taken I V u) k = if k = j then Pl.dataN I + (u : Int) else nm x V k := fun k hk => by
        unfold nm
        by_cases k4 : k < 4
        · rw [if_pos k4, if_pos k4, setDir_dir x j _ h4 k k4]
        · rw [if_neg k4, if_neg k4, if_neg (show ¬ k = j by omega), r1]
          by_cases he : x.e = 0
          · rw [if_pos he, if_pos he]
          · rw [if_neg he, if_neg he, taken_far I V u h.lo _ (by have := (h.isE he).1; omega) (by have := (h.isE he).1; rcases h.e with e5 | e5 <;> omega)]
      refine ⟨setDir x j (Pl.dataN I + (u : Int)), Pl.dataN I + (u : Int), taken I V u, [42, (Pl.dataN I + (u : Int)).toNat], u + 1, ?_, ?_, ?_, by omega, ?_⟩
      · rw [andThen_ok ht]
        show (Except.ok (setFirst x (j : Int) (Pl.dataN I + (u : Int)), Pl.dataN I + (u : Int)), taken I V u, _) = _
        rw [hs]
        rfl
      · exact h.grow j hj (by rw [hnm]; exact h0) (by omega) r1 r2 (fun i h1 h2 _ => taken_far I V u h.lo i h1 h2) (fun he => by
          rw [taken_far I V u h.lo _ (by have := (h.isE he).1; omega) (by have := (h.isE he).1; rcases h.e with e5 | e5 <;> omega)]
          exact h.el he) hb (taken_new I V u) hn
      · rw [hn j hj, if_pos rfl]
      · have := Same.taken (n := n) (x := x) (V := V) (u := u) h.lo
        exact ⟨⟨r3, r4, r5, r6, r7, this.low⟩, (Lg.take u h.lo).more (by decide), by simp⟩
    · rw [if_neg h0]
      refine ⟨x, x.dir j, V, [], u, rfl, h, hnm, h0, Same.refl .., Lg.nil .., Nat.zero_le _⟩
  · obtain ⟨e1, e2, e3, e4⟩ := Sp.page1 (i := (j : Int)) (by omega) (by omega)
    have hf : firstN x (j : Int) = x.e := by
      unfold firstN
      rw [if_pos e1, if_neg (by rw [e2]; decide), if_pos e2]
    have hp : placesN (j : Int) = [(j : Int) - 4] := by
      unfold placesN
      rw [if_pos e1, if_neg (by rw [e2]; decide), if_pos e2, e4]
    unfold reachM
    rw [hf, hp]
    by_cases h0 : x.e = 0
    · rw [if_pos h0]
      have hE := h.growE h0 (by omega)
      have hs : setFirst x (j : Int) (Pl.dataN I + (u : Int)) = { x with e := Pl.dataN I + (u : Int) } := by
        unfold setFirst
        rw [if_neg (by rw [e2]; decide), if_pos e2]
      obtain ⟨m, W, L, u', g1, g2, g3, g4, g5, g6, g7⟩ := goR_one hE (by show Pl.dataN I + (u : Int) ≠ 0; omega) j (by omega) hj (by push_cast; omega)
      refine ⟨{ x with e := Pl.dataN I + (u : Int) }, m, W, [42, (Pl.dataN I + (u : Int)).toNat] ++ (L ++ []), u', ?_, g2, g3, g4, ?_⟩
      · rw [andThen_ok ht]
        have g1' : goR n I [(j : Int) - 4] (Pl.dataN I + (u : Int)) (taken I V u) = (.ok m, W, L) := g1
        rw [andThen_ok g1', hs]
        rfl
      · exact ⟨⟨g5.k, g5.p, g5.u, g5.l, g5.s, fun i h1 h2 => (g5.low i h1 h2).trans (taken_far I V u h.lo i h1 (by omega))⟩, (List.append_nil L).symm ▸ (Lg.take u h.lo).app g6, by simp; omega⟩
    · rw [if_neg h0]
      obtain ⟨m, W, L, u', g1, g2, g3, g4, g5, g6, g7⟩ := goR_one h h0 j (by omega) hj (by omega)
      refine ⟨x, m, W, L ++ [], u', ?_, g2, g3, g4, g5, by rw [List.append_nil]; exact g6.more (by decide), by rw [List.append_nil]; omega⟩
      rw [andThen_ok g1]
      rfl
theorem Fl.write (h : Fl n I x V u P) (j : Nat) (hj : j < 36) (h0 : nm x V j ≠ 0) (q : List UInt8) (hq : q.length = 64) : Fl n I x (upd V (nm x V j).toNat q) u (updP P j q) := by
  have hd := h.isN j hj h0
  have hlo := h.lo
  have hfar : ∀ i : Nat, i ≠ (nm x V j).toNat → upd V (nm x V j).toNat q i = V i := fun i hi => by
    unfold upd
    rw [if_neg hi]
  have hE : x.e ≠ 0 → upd V (nm x V j).toNat q x.e.toNat = V x.e.toNat := fun he => hfar _ (by
    have h1 := (h.isE he).1
    have h2 := hd.1
    have h3 := h.ne j hj h0
    omega)
  have hn : ∀ k, nm x (upd V (nm x V j).toNat q) k = nm x V k := fun k => by
    obtain ⟨m, hm⟩ : ∃ m, nm x V j = m := ⟨_, rfl⟩
    rw [hm] at hE ⊢
    unfold nm
    by_cases k4 : k < 4
    · rw [if_pos k4, if_pos k4]
    · rw [if_neg k4, if_neg k4]
      by_cases he : x.e = 0
      · rw [if_pos he, if_pos he]
      · rw [if_neg he, if_neg he, hE he]
  have h42 : upd V (nm x V j).toNat q 42 = V 42 := hfar 42 (by have := hd.1; omega)
  refine ⟨h.lo, h.hi, h.ub, h.f0, by rw [h42]; exact h.bl, by rw [h42]; exact h.bt, h.e, fun he => by rw [hE he]; exact h.el he, ?_, ?_, ?_, ?_, updP_length h.pl hq, ?_⟩
  · intro k hk; rw [hn k]; exact h.num k hk
  · intro k hk; rw [hn k]; exact h.ne k hk
  · intro a b ha hb hab; rw [hn a, hn b]; exact h.inj a b ha hb hab
  · intro k hk
    rw [hn k]
    unfold updP
    by_cases e : k = j
    · rw [if_pos e, e, if_neg h0]
      unfold upd
      rw [if_pos rfl]
    · rw [if_neg e, h.pg k hk]
      by_cases k0 : nm x V k = 0
      · rw [if_pos k0, if_pos k0]
      · rw [if_neg k0, if_neg k0, hfar _ (by
          have h1 := (h.isN k hk k0).1
          have h2 := hd.1
          have h3 := h.inj k j hk hj e k0
          omega)]
  · have : (fun k => decide (nm x (upd V (nm x V j).toNat q) k ≠ 0)) = fun k => decide (nm x V k ≠ 0) := by
      funext k
      rw [hn k]
    rw [this]
    exact h.cnt
end Fs

namespace Fs
open Dk (zeros zeros_length)
open Ii (Ino)
variable {n I : Int} {x : Ino} {V : View} {u : Nat} {P : Nat → List UInt8}
theorem Fl.ofS (h : Fl n I x V u P) (s : Int) : Fl n I { x with s := s } V u P :=
  ⟨h.lo, h.hi, h.ub, h.f0, h.bl, h.bt, h.e, h.el, h.num, h.ne, h.inj, h.pg, h.pl, h.cnt⟩
theorem Fl.flat_length (h : Fl n I x V u P) : (flat P 36).length = 2304 := Fs.flat_length P 36 h.pl
theorem Fl.read (h : Fl n I x V u P) : ∀ (c off : Nat), off + c ≤ 2304 → readG n I x V (pieces off c) = .ok (((flat P 36).drop off).take c) := by
  intro c
  induction c using Nat.strongRecOn with
  | ind c ih =>
    intro off hb
    by_cases h0 : c = 0
    · subst h0
      rw [pieces_zero, readG_nil, List.take_zero]
    · rw [pieces_step off c h0]
      obtain ⟨m, hm⟩ : ∃ m, min c (64 - off % 64) = m := ⟨_, rfl⟩
      rw [hm, readG_ok (c := ⟨off / 64, off % 64, m⟩) (h.page (off / 64) (by omega)), ih (c - m) (by omega) (off + m) (by omega)]
      have e1 : Pg.textN (P (off / 64)) ((off % 64 : Nat) : Int) (m : Int) = ((P (off / 64)).drop (off % 64)).take m := by
        unfold Pg.textN
        rw [if_pos (Pg.ins_mk (by omega) (by omega) (by omega))]
        rfl
      show Except.ok (Pg.textN (P (off / 64)) ((off % 64 : Nat) : Int) (m : Int) ++ _) = _
      rw [e1, flat_part h.pl (off / 64) (by omega) (off % 64) m (by omega), show 64 * (off / 64) + off % 64 = off by omega, take_drop_join, show m + (c - m) = c by omega]
theorem loop_room : ∀ (c : Nat) {x : Ino} {V : View} {u : Nat} {P : Nat → List UInt8}, Fl n I x V u P → ∀ (off : Nat) (t : List UInt8), t.length = c → off + c ≤ 2304 → Pl.dataN I + (u : Int) + 2 * ((pieces off t.length).length : Int) ≤ n →
    ∃ y W L u' P', wloop n I (pieces off t.length) x t V = (.ok y, W, L) ∧ Fl n I y W u' P' ∧ flat P' 36 = Pg.over (flat P 36) off t ∧ Same n I x y V W ∧ Lg I u u' (2 * (pieces off t.length).length) L ∧ L.length ≤ 6 * (pieces off t.length).length := by
  intro c
  induction c using Nat.strongRecOn with
  | ind c ih =>
    intro x V u P h off t hc hb hroom
    by_cases h0 : c = 0
    · obtain rfl : t = [] := List.eq_nil_of_length_eq_zero (by omega)
      exact ⟨x, V, [], u, P, rfl, h, (Pg.over_nil _ _).symm, Same.refl .., Lg.nil .., Nat.zero_le _⟩
    · obtain ⟨m, hm⟩ : ∃ m, min t.length (64 - off % 64) = m := ⟨_, rfl⟩
      have hps := pieces_step off t.length (by omega)
      rw [hm] at hps
      rw [hps, List.length_cons] at hroom
      obtain ⟨y, m1, W1, L1, u1, hr, g1, g2, g3, g4, g6, g7⟩ := h.reach (off / 64) (by omega) (by omega)
      have hd := g1.isN (off / 64) (by omega) (by rw [g2]; exact g3)
      rw [g2] at hd
      have e1 : (tell (dataF n I m1)) W1 = (.ok (P (off / 64)), W1, []) := by
        show (dataF n I m1 W1, W1, []) = _
        unfold dataF
        rw [if_neg g3, if_pos hd, g1.pg (off / 64) (by omega), g2, if_neg g3]
      have hq : Pg.setTextN (P (off / 64)) ((off % 64 : Nat) : Int) (t.take m) = Pg.over (P (off / 64)) (off % 64) (t.take m) := by
        unfold Pg.setTextN
        rw [if_pos (Pg.ins_mk (by omega) (by omega) (by rw [List.length_take]; omega))]
        rfl
      have hl := h.pl (off / 64) (by omega)
      have hql : (Pg.over (P (off / 64)) (off % 64) (t.take m)).length = 64 := by
        rw [Pg.over_length _ _ _ (by rw [hl, List.length_take]; omega), hl]
      have g5 := g1.write (off / 64) (by omega) (by rw [g2]; exact g3) _ hql
      rw [g2] at g5
      obtain ⟨y2, W2, L2, u2, P2, k1, k2, k3, k4, k5, k6⟩ := ih (c - m) (by omega) g5 (off + m) (t.drop m) (by rw [List.length_drop]; omega) (by omega) (by rw [List.length_drop]; have := g6.few; omega)
      rw [List.length_drop] at k1 k5 k6
      refine ⟨y2, W2, L1 ++ ([] ++ ([m1.toNat] ++ L2)), u2, P2, ?_, k2, ?_, (g4.trans (Same.upd hd h.lo _)).trans k4, ?_, by rw [hps]; simp; omega⟩
      · rw [pieces_step off t.length (by omega), hm]
        have e2 : andThen (tell (dataF n I m1)) (fun p => andThen (wr m1.toNat (Pg.setTextN p ((off % 64 : Nat) : Int) (t.take m))) fun _ => wloop n I (pieces (off + m) (t.length - m)) y (t.drop m)) W1 = (.ok y2, W2, [] ++ ([m1.toNat] ++ L2)) := by
          rw [andThen_ok e1]
          have e3 : andThen (wr m1.toNat (Pg.setTextN (P (off / 64)) ((off % 64 : Nat) : Int) (t.take m))) (fun _ => wloop n I (pieces (off + m) (t.length - m)) y (t.drop m)) W1 = (.ok y2, W2, [m1.toNat] ++ L2) := by
            rw [hq]
            have e4 : wr m1.toNat (Pg.over (P (off / 64)) (off % 64) (t.take m)) W1 = (.ok (), upd W1 m1.toNat (Pg.over (P (off / 64)) (off % 64) (t.take m)), [m1.toNat]) := rfl
            rw [andThen_ok e4, k1]
          rw [e3]
        show andThen (reachM n I x ((off / 64 : Nat) : Int)) (fun z => andThen (tell (dataF n I z.2)) fun p => andThen (wr z.2.toNat (Pg.setTextN p ((off % 64 : Nat) : Int) (t.take m))) fun _ => wloop n I (pieces (off + m) (t.length - m)) z.1 (t.drop m)) V = _
        rw [andThen_ok hr]
        exact congrArg (fun o : Out Ino => (o.1, o.2.1, L1 ++ o.2.2)) e2
      · have hfl := h.flat_length
        have hm2 : (t.take m).length = m := by rw [List.length_take]; omega
        rw [k3, flat_upd h.pl (off / 64) (by omega) (off % 64) (t.take m) (by omega), show 64 * (off / 64) + off % 64 = off by omega]
        have := over_then (flat P 36) off (t.take m) (t.drop m) (by rw [hm2, List.length_drop, hfl]; omega)
        rw [hm2, List.take_append_drop] at this
        exact this
      · rw [pieces_step off t.length (by omega), hm, List.length_cons]
        have hin := g1.num (off / 64) (by omega)
        rw [g2] at hin
        have := g6.app (Lg.app (c := 0) (Lg.nil I u1 0) ((Lg.one (m := m1) h.lo (by omega)).app k5))
        exact this.more (by omega)
theorem Fl.ext (h : Fl n I x V u P) {W : View} (hW : ∀ i : Nat, i = 42 ∨ (Pl.dataN I ≤ (i : Int) ∧ (i : Int) < n) → W i = V i) : Fl n I x W u P := by
  have hlo := h.lo
  have hE : x.e ≠ 0 → W x.e.toNat = V x.e.toNat := fun he => hW _ (Or.inr (by have := h.isE he; unfold isData at this; omega))
  have hn : ∀ k, nm x W k = nm x V k := fun k => by
    unfold nm
    by_cases k4 : k < 4
    · rw [if_pos k4, if_pos k4]
    · rw [if_neg k4, if_neg k4]
      by_cases he : x.e = 0
      · rw [if_pos he, if_pos he]
      · rw [if_neg he, if_neg he, hE he]
  have h42 := hW 42 (Or.inl rfl)
  refine ⟨h.lo, h.hi, h.ub, h.f0, by rw [h42]; exact h.bl, by rw [h42]; exact h.bt, h.e, fun he => by rw [hE he]; exact h.el he, ?_, ?_, ?_, ?_, h.pl, ?_⟩
  · intro k hk; rw [hn k]; exact h.num k hk
  · intro k hk; rw [hn k]; exact h.ne k hk
  · intro a b ha hb hab; rw [hn a, hn b]; exact h.inj a b ha hb hab
  · intro k hk
    rw [hn k, h.pg k hk]
    by_cases k0 : nm x V k = 0
    · rw [if_pos k0, if_pos k0]
    · rw [if_neg k0, if_neg k0, hW _ (Or.inr (by have := h.isN k hk k0; unfold isData at this; omega))]
  · have : (fun k => decide (nm x W k ≠ 0)) = fun k => decide (nm x V k ≠ 0) := by
      funext k
      rw [hn k]
    rw [this]
    exact h.cnt
theorem Fl.fits (h : Fl n I x V u P) (hk : 0 ≤ x.k ∧ x.k < 256) (hp : 0 ≤ x.p ∧ x.p < 65536) (hu : 0 ≤ x.u ∧ x.u < 65536) (hl : 0 ≤ x.l ∧ x.l < 65536) (hs : 0 ≤ x.s ∧ x.s < 4294967296) : Ii.fitsB x := by
  have hlo := h.lo
  have hub := h.ub
  have hhi := h.hi
  have hd : ∀ j, j < 4 → 0 ≤ x.dir j ∧ x.dir j < 65536 := fun j hj => by
    have h1 := h.num j (by omega)
    unfold nm at h1
    rw [if_pos hj] at h1
    omega
  have he : 0 ≤ x.e ∧ x.e < 65536 := by
    have := h.e
    omega
  exact ⟨hk, hp, hu, hl, hs, hd 0 (by decide), hd 1 (by decide), hd 2 (by decide), hd 3 (by decide), he, by rw [h.f0]; decide⟩
structure Rt (n I : Int) (V : View) (x : Ino) (u : Nat) (P : Nat → List UInt8) : Prop where
  fl : Fl n I x V u P
  len : (V 43).length = 64
  at1 : inoAt V 1 = x
  I1 : 1 ≤ I
  k : x.k = 2
  p : 0 ≤ x.p ∧ x.p < 65536
  u : 0 ≤ x.u ∧ x.u < 65536
  l : 0 ≤ x.l ∧ x.l < 65536
  s : 0 ≤ x.s ∧ x.s ≤ 2304
theorem Rt.ext (h : Rt n I V x u P) {W : View} (hW : ∀ i : Nat, 42 ≤ i → (i : Int) < n → W i = V i) : Rt n I W x u P := by
  have hlo := h.fl.lo
  have hub := h.fl.ub
  have h43 := hW 43 (by decide) (by omega)
  refine ⟨h.fl.ext fun i hi => hW i (by omega) (by omega), by rw [h43]; exact h.len, ?_, h.I1, h.k, h.p, h.u, h.l, h.s⟩
  rw [← h.at1]
  unfold inoAt
  rw [show tbl 1 = 43 by decide, h43]
theorem Rt.taken (h : Rt n I V x u P) : takenF I 1 V = .ok x := by
  unfold takenF
  rw [if_pos ⟨by decide, h.I1⟩, h.at1, if_neg (by rw [h.k]; decide)]
theorem setI_is {y : Ino} {W : View} (hl : (W 43).length = 64) (hf : Ii.fitsB y) (hk : y.k ≠ 0) :
    ∃ W' L, setI 1 y W = (.ok (), W', L) ∧ (∀ i, i ≠ 43 → W' i = W i) ∧ (W' 43).length = 64 ∧ inoAt W' 1 = y ∧ (∀ i ∈ L, i = 43) ∧ L.length ≤ 1 := by
  have hA : halfAt 1 = ((0 : Nat) : Int) := by decide
  have hT : tbl 1 = 43 := by decide
  have hg := Ii.get_put (W 43) 0 y hl (by decide) hf
  have hpl := Ii.putN_length (W 43) ((0 : Nat) : Int) y hl (by decide)
  have ha : ∀ W' : View, W' 43 = Ii.putN (W 43) ((0 : Nat) : Int) y → inoAt W' 1 = y := fun W' e => by
    unfold inoAt
    rw [hT, hA, e, hg, if_neg hk]
  unfold setI
  rw [hT, hA]
  by_cases e : Ii.putN (W 43) ((0 : Nat) : Int) y = W 43
  · rw [if_pos e]
    exact ⟨W, [], rfl, fun _ _ => rfl, hl, ha W e.symm, fun _ h => absurd h List.not_mem_nil, Nat.zero_le _⟩
  · rw [if_neg e]
    refine ⟨upd W 43 (Ii.putN (W 43) ((0 : Nat) : Int) y), [43], rfl, fun i hi => ?_, ?_, ha _ ?_, fun i hi => List.mem_singleton.1 hi, Nat.le_refl _⟩
    · unfold upd
      rw [if_neg hi]
    · unfold upd
      rw [if_pos rfl]
      exact hpl
    · unfold upd
      rw [if_pos rfl]
structure Lw (I : Int) (u u' c : Nat) (L : List Nat) : Prop where
  le : u ≤ u'
  few : u' ≤ u + c
  mem : ∀ i ∈ L, i = 42 ∨ i = 43 ∨ (Pl.dataN I ≤ (i : Int) ∧ (i : Int) < Pl.dataN I + u')
theorem Lw.app {I : Int} {u u' u'' c c' : Nat} {L L' : List Nat} (h : Lw I u u' c L) (k : Lw I u' u'' c' L') : Lw I u u'' (c + c') (L ++ L') := by
  have h1 := h.le
  have h2 := h.few
  have k1 := k.le
  have k2 := k.few
  refine ⟨by omega, by omega, fun i hi => ?_⟩
  rcases List.mem_append.1 hi with hi | hi
  · rcases h.mem i hi with e | e | e
    · exact Or.inl e
    · exact Or.inr (Or.inl e)
    · exact Or.inr (Or.inr ⟨e.1, by omega⟩)
  · exact k.mem i hi
theorem Lg.set {I : Int} {u u' c : Nat} {L L' : List Nat} (h : Lg I u u' c L) (h' : ∀ i ∈ L', i = 43) : Lw I u u' c ([] ++ (L ++ L')) := by
  refine ⟨h.le, h.few, fun i hi => ?_⟩
  rcases List.mem_append.1 hi with hi | hi
  · cases hi
  · rcases List.mem_append.1 hi with hi | hi
    · rcases h.mem i hi with e | e
      · exact Or.inl e
      · exact Or.inr (Or.inr e)
    · exact Or.inr (Or.inl (h' i hi))
theorem Lw.cov {I : Int} {u u' c : Nat} {L : List Nat} (h : Lw I u u' c L) (hd : 0 ≤ Pl.dataN I) : Cov L (43 :: (List.range u').map fun k => (Pl.dataN I).toNat + k) := by
  intro i hi
  rcases h.mem i hi with e | e | e
  · exact Or.inr (Or.inl e)
  · exact Or.inr (Or.inr (by rw [e]; exact List.mem_cons_self))
  · exact Or.inr (Or.inr (List.mem_cons_of_mem _ (List.mem_map.2 ⟨i - (Pl.dataN I).toNat, by rw [List.mem_range]; omega, by omega⟩)))
theorem Lw.cv {α : Type} {m : M α} {u u' c : Nat} (h : Lw I u u' c (m V).2.2) (hd : 0 ≤ Pl.dataN I) : Cv m V (u' + 1) := ⟨_, by simp, h.cov hd⟩
theorem Rt.write (h : Rt n I V x u P) (off : Nat) (t : List UInt8) (hroom : Pl.dataN I + (u : Int) + 2 * ((pieces off t.length).length : Int) ≤ n) (ht : t ≠ []) (hb : off + t.length ≤ 2304) :
    ∃ W L y u' P', writeM n I 1 off t V = (.ok (), W, L) ∧ Rt n I W y u' P' ∧ flat P' 36 = Pg.over (flat P 36) off t ∧ y.s = max x.s (off + t.length) ∧ Lw I u u' (2 * (pieces off t.length).length) L ∧ L.length ≤ 6 * (pieces off t.length).length + 1 := by
  have hlo := h.fl.lo
  obtain ⟨y, W, L, u', P', k1, k2, k3, k4, k5, k6⟩ := loop_room t.length (h.fl.ofS (max x.s (off + t.length))) off t rfl hb hroom
  have hs : y.s = max x.s (off + t.length) := k4.s
  have hk : y.k = x.k := k4.k
  have hp : y.p = x.p := k4.p
  have hu : y.u = x.u := k4.u
  have hl : y.l = x.l := k4.l
  have h43 : (W 43).length = 64 := by rw [k4.low 43 (by decide) (by omega)]; exact h.len
  have hsb : 0 ≤ y.s ∧ y.s ≤ 2304 := by rw [hs]; have := h.s; omega
  have hf := k2.fits (by rw [hk, h.k]; decide) (by rw [hp]; exact h.p) (by rw [hu]; exact h.u) (by rw [hl]; exact h.l) (by omega)
  obtain ⟨W', L', s1, s2, s3, s4, s5, s6⟩ := setI_is h43 hf (by rw [hk, h.k]; decide)
  refine ⟨W', [] ++ (L ++ L'), y, u', P', ?_, ⟨k2.ext fun i hi => s2 i (by omega), s3, s4, h.I1, by rw [hk, h.k], by rw [hp]; exact h.p, by rw [hu]; exact h.u, by rw [hl]; exact h.l, hsb⟩, k3, hs, k5.set s5, by simp; omega⟩
  unfold writeM
  have e1 : (tell (takenF I 1)) V = (.ok x, V, []) := by
    show (takenF I 1 V, V, []) = _
    rw [h.taken]
  rw [andThen_ok e1, if_neg (by omega), if_neg ht, if_neg (by omega)]
  have e2 : (off : Int).toNat = off := by omega
  rw [e2, andThen_ok k1, s1]
theorem Rt.read (h : Rt n I V x u P) (off c : Nat) (hb : (off : Int) + c ≤ x.s) : readF n I 1 off c V = .ok (((flat P 36).drop off).take c) := by
  have hs := h.s
  unfold readF
  rw [h.taken]
  show (if (off : Int) < 0 ∨ (c : Int) < 0 ∨ 67840 < (c : Int) then _ else _) = _
  rw [if_neg (by omega), show (off : Int).toNat = off by omega, show (min (c : Int) (x.s - off)).toNat = c by omega]
  exact h.fl.read c off (by omega)
end Fs

namespace Dm
open Ii (Ino)
open Fs (flat Rt View)
structure Bytes (E : List Ent) (F : List UInt8) : Prop where
  fits : 16 * E.length ≤ F.length
  at1 : ∀ i e, E[i]? = some e → Nm.at_ F i = Nm.slot e.1 e.2
theorem at_over (F b : List UInt8) (i : Nat) (hb : b.length = 16) (hi : 16 * i + 16 ≤ F.length) (k : Nat) : Nm.at_ (Pg.over F (16 * i) b) k = if k = i then b else Nm.at_ F k := by
  by_cases e : k = i
  · subst e
    rw [if_pos rfl]
    have := Pg.over_back F (16 * k) b (by omega)
    rw [hb] at this
    exact this
  · rw [if_neg e]
    apply List.ext_getElem?
    intro j
    rw [Nm.at_get, Nm.at_get]
    split
    · rw [Pg.over_at _ _ _ _ (by omega)]
      by_cases c : 16 * k + j < 16 * i
      · rw [if_pos c]
      · rw [if_neg c, if_neg (by omega)]
    · rfl
theorem Bytes.nil (F : List UInt8) : Bytes [] F := ⟨Nat.zero_le _, fun i e h => by cases h⟩
theorem Bytes.set {E : List Ent} {F : List UInt8} (h : Bytes E F) (i : Nat) (hi : i < E.length) (e : Ent) (hs : Nm.standB e.1 e.2 = true) : Bytes (E.set i e) (Pg.over F (16 * i) (Nm.slot e.1 e.2)) := by
  have hl := Nm.slot_length e.1 (Nm.stand_bd hs).2.2
  have hf := h.fits
  refine ⟨by rw [List.length_set, Pg.over_length _ _ _ (by omega)]; exact hf, fun k x hk => ?_⟩
  rw [at_over F _ i hl (by omega) k]
  rw [List.getElem?_set] at hk
  by_cases q : i = k
  · rw [if_pos q, if_pos hi] at hk
    injection hk with hk
    rw [if_pos q.symm, hk]
  · rw [if_neg q] at hk
    rw [if_neg (fun p => q p.symm)]
    exact h.at1 k x hk
theorem over_page (F : List UInt8) (a k : Nat) (b : List UInt8) (ha : a + 64 ≤ F.length) (hk : k + b.length ≤ 64) : Pg.over F a (Pg.over ((F.drop a).take 64) k b) = Pg.over F (a + k) b := by
  have hl : ((F.drop a).take 64).length = 64 := by rw [List.length_take, List.length_drop]; omega
  have hl2 : (Pg.over ((F.drop a).take 64) k b).length = 64 := by rw [Pg.over_length _ _ _ (by omega), hl]
  apply List.ext_getElem?
  intro j
  have r1 := Pg.over_at F a (Pg.over ((F.drop a).take 64) k b) j (by omega)
  have r2 := Pg.over_at F (a + k) b j (by omega)
  have r3 := Pg.over_at ((F.drop a).take 64) k b (j - a) (by omega)
  rw [hl2] at r1
  rw [r1, r2]
  by_cases c1 : j < a
  · rw [if_pos c1, if_pos (by omega)]
  · rw [if_neg c1]
    by_cases c2 : j < a + 64
    · rw [if_pos c2, r3]
      by_cases c3 : j - a < k
      · rw [if_pos c3, if_pos (by omega), List.getElem?_take, if_pos (by omega), List.getElem?_drop]
        congr 1
        omega
      · rw [if_neg c3, if_neg (show ¬ j < a + k by omega)]
        by_cases c4 : j - a < k + b.length
        · rw [if_pos c4, if_pos (by omega)]
          congr 1
          omega
        · rw [if_neg c4, if_neg (by omega), List.getElem?_take, if_pos (by omega), List.getElem?_drop]
          congr 1
          omega
    · rw [if_neg c2, if_neg (show ¬ j < a + k by omega), if_neg (by omega)]
theorem at_page (F : List UInt8) (j k : Nat) (hk : k < 4) : Nm.at_ ((F.drop (64 * j)).take 64) k = Nm.at_ F (4 * j + k) := by
  apply List.ext_getElem?
  intro i
  rw [Nm.at_get, Nm.at_get]
  split
  · rw [List.getElem?_take, if_pos (by omega), List.getElem?_drop]
    congr 1
    omega
  · rfl
def fresh (n : Int) (s : List UInt8) : List UInt8 := Nm.slot n s ++ Nm.zs 48
theorem fresh_length (n : Int) {s : List UInt8} (h : s.length ≤ 13) : (fresh n s).length = 64 := by
  unfold fresh
  rw [List.length_append, Nm.slot_length n h, Nm.zs_length]
theorem fresh_at (n : Int) {s : List UInt8} (h : s.length ≤ 13) (k : Nat) (hk : k < 4) : Nm.at_ (fresh n s) k = if k = 0 then Nm.slot n s else Nm.zs 16 := by
  have hl := Nm.slot_length n h
  unfold fresh Nm.at_
  have : k = 0 ∨ k = 1 ∨ k = 2 ∨ k = 3 := by omega
  rcases this with rfl | rfl | rfl | rfl
  · rw [if_pos rfl, Nat.mul_zero, List.drop_zero, ← hl]
    exact List.take_left' rfl
  · rw [if_neg (by decide), List.drop_append, hl, List.drop_of_length_le (by omega)]
    rfl
  · rw [if_neg (by decide), List.drop_append, hl, List.drop_of_length_le (by omega)]
    rfl
  · rw [if_neg (by decide), List.drop_append, hl, List.drop_of_length_le (by omega)]
    rfl
theorem Bytes.grow {E : List Ent} {F : List UInt8} (h : Bytes E F) (hf : 16 * E.length + 64 ≤ F.length) (n : Int) (s : List UInt8) (hs : Nm.standB n s = true) :
    Bytes (E ++ [(n, s), (0, []), (0, []), (0, [])]) (Pg.over F (16 * E.length) (fresh n s)) := by
  have hs13 := (Nm.stand_bd hs).2.2
  have hl := fresh_length n hs13
  refine ⟨by rw [List.length_append, Pg.over_length _ _ _ (by omega)]; simp; omega, fun k x hk => ?_⟩
  by_cases c : k < E.length
  · rw [List.getElem?_append_left c] at hk
    rw [← h.at1 k x hk]
    apply List.ext_getElem?
    intro j
    rw [Nm.at_get, Nm.at_get]
    split
    · rw [Pg.over_at _ _ _ _ (by omega), if_pos (by omega)]
    · rfl
  · rw [List.getElem?_append_right (by omega)] at hk
    obtain ⟨m, rfl⟩ : ∃ m, k = E.length + m := ⟨k - E.length, by omega⟩
    rw [Nat.add_sub_cancel_left] at hk
    have hm : m < 4 := by
      have := (List.getElem?_eq_some_iff.1 hk).1
      simpa using this
    have e1 : Nm.at_ (Pg.over F (16 * E.length) (fresh n s)) (E.length + m) = Nm.at_ (fresh n s) m := by
      apply List.ext_getElem?
      intro j
      rw [Nm.at_get, Nm.at_get]
      split
      · rw [Pg.over_at _ _ _ _ (by omega), if_neg (by omega), if_pos (by omega)]
        congr 1
        omega
      · rfl
    rw [e1, fresh_at n hs13 m hm]
    have : m = 0 ∨ m = 1 ∨ m = 2 ∨ m = 3 := by omega
    rcases this with rfl | rfl | rfl | rfl <;> (injection hk with hk; subst hk; rfl)
structure Dr (n I : Int) (V : View) (x : Ino) (u : Nat) (P : Nat → List UInt8) (E : List Ent) (H : Has) : Prop where
  rt : Rt n I V x u P
  size : x.s = 16 * (E.length : Int)
  ok : Ok E H
  bytes : Bytes E (flat P 36)
variable {n I : Int} {V : View} {x : Ino} {u : Nat} {P : Nat → List UInt8} {E : List Ent} {H : Has}
theorem Dr.ext (h : Dr n I V x u P E H) {W : View} (hW : ∀ i : Nat, 42 ≤ i → (i : Int) < n → W i = V i) : Dr n I W x u P E H := ⟨h.rt.ext hW, h.size, h.ok, h.bytes⟩
theorem Dr.few (h : Dr n I V x u P E H) : E.length ≤ 144 := by
  have := h.bytes.fits
  rw [h.rt.fl.flat_length] at this
  omega
theorem one_piece (off c : Nat) (h0 : 0 < c) (h : off % 64 + c ≤ 64) : (Fs.pieces off c).length = 1 := by
  rw [Fs.pieces_step off c (by omega), show min c (64 - off % 64) = c by omega, Nat.sub_self, Fs.pieces_zero]
  rfl
theorem Dr.setPage (h : Dr n I V x u P E H) (hroom : Pl.dataN I + (u : Int) + 2 ≤ n) (j k : Nat) (hk : k < 4) (hi : 4 * j + k < E.length) (m : Int) (s : List UInt8) (hs : Nm.standB m s = true) {H' : Has} (hok : Ok (E.set (4 * j + k) (m, s)) H') :
    ∃ W L y u' P', Fs.writeM n I 1 ((64 * j : Nat) : Int) (Nm.lay (((flat P 36).drop (64 * j)).take 64) k (Nm.slot m s)) V = (.ok (), W, L) ∧ Dr n I W y u' P' (E.set (4 * j + k) (m, s)) H' ∧ Fs.Lw I u u' 2 L ∧ L.length ≤ 7 := by
  have hl := Nm.slot_length m (Nm.stand_bd hs).2.2
  have hf := h.few
  have h4 := h.ok.four
  have hfl := h.rt.fl.flat_length
  have hpl : (((flat P 36).drop (64 * j)).take 64).length = 64 := by rw [List.length_take, List.length_drop, hfl]; omega
  have hll := Nm.lay_length hpl hk hl
  obtain ⟨W, L, y, u', P', k1, k2, k3, k4, k5, k6⟩ := h.rt.write (64 * j) (Nm.lay (((flat P 36).drop (64 * j)).take 64) k (Nm.slot m s)) (by rw [one_piece (64 * j) _ (by omega) (by omega)]; omega) (by intro q; rw [q] at hll; cases hll) (by omega)
  refine ⟨W, L, y, u', P', k1, ⟨k2, ?_, hok, ?_⟩, by rw [one_piece (64 * j) _ (by omega) (by omega)] at k5; exact k5, by rw [one_piece (64 * j) _ (by omega) (by omega)] at k6; exact k6⟩
  · rw [k4, h.size, List.length_set]
    omega
  · rw [k3]
    have := over_page (flat P 36) (64 * j) (16 * k) (Nm.slot m s) (by omega) (by omega)
    unfold Nm.lay
    rw [this, show 64 * j + 16 * k = 16 * (4 * j + k) by omega]
    exact h.bytes.set (4 * j + k) hi (m, s) hs
theorem Dr.grow (h : Dr n I V x u P E H) (hroom : Pl.dataN I + (u : Int) + 2 ≤ n) (hf : E.length + 4 ≤ 144) (m : Int) (s : List UInt8) (hs : Nm.standB m s = true) {H' : Has} (hok : Ok (E ++ [(m, s), (0, []), (0, []), (0, [])]) H') :
    ∃ W L y u' P', Fs.writeM n I 1 ((16 * E.length : Nat) : Int) (fresh m s) V = (.ok (), W, L) ∧ Dr n I W y u' P' (E ++ [(m, s), (0, []), (0, []), (0, [])]) H' ∧ Fs.Lw I u u' 2 L ∧ L.length ≤ 7 := by
  have hl := fresh_length m (Nm.stand_bd hs).2.2
  have hfl := h.rt.fl.flat_length
  obtain ⟨W, L, y, u', P', k1, k2, k3, k4, k5, k6⟩ := h.rt.write (16 * E.length) (fresh m s) (by rw [one_piece (16 * E.length) _ (by omega) (by have := h.ok.four; omega)]; omega) (by intro q; rw [q] at hl; cases hl) (by omega)
  refine ⟨W, L, y, u', P', k1, ⟨k2, ?_, hok, by rw [k3]; exact h.bytes.grow (by omega) m s hs⟩, by rw [one_piece (16 * E.length) _ (by omega) (by have := h.ok.four; omega)] at k5; exact k5, by rw [one_piece (16 * E.length) _ (by omega) (by have := h.ok.four; omega)] at k6; exact k6⟩
  rw [k4, h.size, List.length_append]
  simp
  omega
end Dm

namespace Dm
variable {E : List Ent} {H : Has}
def want (k : Int) (s : List UInt8) (H : Has) : Int := if k = 0 then (if Nm.chk s ≠ 0 then Nm.chk s else if (look H s).isSome then 17 else 0) else if (look H s).isSome then 0 else 2
def nextH (k : Int) (s : List UInt8) (n : Int) (H : Has) : Has := if k = 2 then delH H s else putH H s n
def nextE (k : Int) (s : List UInt8) (n : Int) (E : List Ent) : List Ent := if k = 0 then addE E n s else match spot E s with
  | some i => E.set i (if k = 2 then (0, []) else (n, s))
  | none => E
theorem want_add {s : List UInt8} (h : want 0 s H = 0) : Nm.chk s = 0 ∧ look H s = none := by
  unfold want at h
  rw [if_pos rfl] at h
  by_cases c : Nm.chk s = 0
  · rw [if_neg (by simp [c])] at h
    refine ⟨c, ?_⟩
    cases q : look H s with
    | none => rfl
    | some m => rw [q] at h; cases h
  · rw [if_pos c] at h
    exact absurd h c
theorem want_there {k : Int} {s : List UInt8} (hk : k ≠ 0) (h : want k s H = 0) : (look H s).isSome = true := by
  unfold want at h
  rw [if_neg hk] at h
  split at h
  · assumption
  · cases h
theorem Ok.there (h : Ok E H) {s : List UInt8} (hs : (look H s).isSome = true) : ∃ i, spot E s = some i ∧ i < E.length := by
  cases q : spot E s with
  | none =>
    rw [h.spot_none.1 q] at hs
    cases hs
  | some i =>
    obtain ⟨a, n, b, e1, e2, _⟩ := h.spot_some q
    exact ⟨i, rfl, by rw [e1, List.length_append, List.length_cons]; omega⟩
theorem next_ok (h : Ok E H) {k : Int} {s : List UInt8} {n : Int} (h0 : 1 ≤ n) (h1 : n ≤ 65535) (hw : want k s H = 0) : Ok (nextE k s n E) (nextH k s n H) := by
  unfold nextE nextH
  by_cases k0 : k = 0
  · subst k0
    obtain ⟨c, q⟩ := want_add hw
    rw [if_pos rfl, if_neg (by decide)]
    exact h.add (decide_eq_true ⟨h0, h1, c⟩) q
  · rw [if_neg k0]
    obtain ⟨i, hi, _⟩ := h.there (want_there k0 hw)
    rw [hi]
    show Ok (E.set i _) _
    by_cases k2 : k = 2
    · rw [if_pos k2, if_pos k2]
      exact h.rem hi
    · rw [if_neg k2, if_neg k2]
      exact h.set h0 h1 hi
end Dm
end Go.Proofs.YtmpfcgjjejlhdaaGreat
