/- Texts of the proof. -/
import Derived.Test.YtmpfcgjjejlhdaaGreatAaj
import Derived.Test.YtmpfcgjjejlhdaaGreatAaa
import Derived.Test.YtmpfcgjjejlhdaaGreatAaf
import Derived.Deep.Slices
import Derived.Deep.AppendLies
import Derived.Laws.OwnMore
import Derived.Laws.AppendOwnNone
import Derived.ProofKit
import Derived.OpenShut
import Derived.ChangeOld
import Derived.BigQuiet
import Derived.BigRegion
import Derived.Lib.SliceRun
import Derived.Test.YtmpfcgjjejlhdaaGreatAac
import Derived.Test.YtmpfcgjjejlhdaaGreatAai
import Derived.Test.YtmpfcgjjejlhdaaGreatAah
import Derived.RangeFuncNested
import Derived.RangeFuncBound
import Derived.RangeFuncCalls
import Derived.RangeFuncLeaves
import Derived.RangeFuncBox
import Derived.Shelf.Abstract
import Derived.Shelf.RegionOpen
import Derived.WalkKit
import Derived.OwnWalkIn
import Derived.TacticsInMore
import Derived.LoopNIn
import Derived.LoopIn
import Derived.Stop.RegionWithIn
import Derived.Sort.QuietIn
set_option maxRecDepth 100000
set_option maxHeartbeats 16000000
namespace Go.Proofs.YtmpfcgjjejlhdaaGreat
section
open Go.RowKit Go.Maps
open Dk (zeros zeros_length)
open Ii (Ino)
theorem put_box (w : World) {p : List UInt8} : Lo [] w [(w.heap.size, byteVals p)] (w.alloc (.cells (byteVals p).toArray 97)) :=
  (Lo.start w (by simp)).alloc _ rfl (byteVals p) _
def StpPut (w : World) (b : Blk) (s s' : Sto) (p : List UInt8) (k : Bool) (W : World) : Prop := Lo [b.t] w [(w.heap.size, byteVals p)] W ∧ StoreAt W b (if k = true then s' else s)
theorem StpPut.cell {w W : World} {B : Nat} {b : Blk} {s s' s'' : Sto} {p : List UInt8} {k : Bool} {n I : Int} (h : StpPut w b s s' p k W) (c : Ctx w B b s'' n I) : W.cell? ⟨B, 0, none⟩ = some (.pointer (some ⟨b.s, 0, none⟩)) :=
  (c.step.block (h.1.only.block B c.lt (by simp; exact fun q => c.nb (q ▸ b.t_mem)))).cell 0 _ rfl
theorem sput_step {w : World} {B : Nat} {b : Blk} {s : Sto} {n I : Int} (h : Ctx w B b s n I) (at1 : Int) (p : List UInt8) (ha : okP n at1) (hp : p.length = 64) : Calls Tryz.prog 66 #[.pointer (some ⟨B, 0, none⟩), .int .i64 at1, pageV p] w (Ends B b n I [] w s (Fs.wr at1.toNat p) fun _ e _ => e = .returned (.tuple #[])) := by
  refine calls_of fun R H => ?_
  have S0 := Lib.hid (put_box w (p := p))
  have HL := Lib.hid hp
  have HC : Hid (∀ s1 s2 k W, StpPut w b s1 s2 p k W → W.cell? ⟨B, 0, none⟩ = some (.pointer (some ⟨b.s, 0, none⟩))) := Lib.hid (fun s1 s2 k W hS => hS.cell h)
  have HT := Lib.hid (h.store.lt _ b.t_mem)
  rcases h.vs.put (p := p) ha hp with ⟨e1, e2, e3, e4⟩ | ⟨e1, e2, e3⟩
  · have HP : Hid (∀ W, StpPut w b s (sput s at1 p) p false W → Calls Tryz.prog 76 #[.pointer (some ⟨b.s, 0, none⟩), .int .i64 at1, pageV p] W fun e w' => e = .returned (.int .i64 0) ∧ StpPut w b s (sput s at1 p) p true w') := Lib.hid (fun W hS => by
      have := sput_any (show StoreAt W b s from hS.2) at1 p hp
      rw [e1] at this
      exact this.mono (fun e w' hh => ⟨hh.1, hS.1.call hh.2.2 (fun k hk => hk), hh.2.1⟩))
    have HE : Hid (∀ W, StpPut w b s (sput s at1 p) p true W → R (.returned (.tuple #[])) W) := Lib.hid (fun W hS => H.out _ _ (by
      refine Or.inl ⟨(), _, _, ?_, e3, ⟨h.step.block (hS.1.only.block B h.lt (by simp; exact fun q => h.nb (q ▸ b.t_mem))), hS.2, e4, h.nb⟩, rfl, hS.1.only⟩
      rw [e2]; rfl))
    have hst := Lib.hid h.store
    clear h ha e1 e2 e3 e4 H
    go_enter Tryz.func66, Tryz.ntmps66
    go_wp2_with fail
    rename_i cs hcs
    obtain rfl : cs = (byteVals p).toArray := by unfold pageV at hcs; injection hcs with hcs; exact hcs.symm
    clear hcs
    generalize hw : World.alloc _ _ = w1
    have S : Hid (StpPut w b s (sput s at1 p) p false w1) := Lib.hid ⟨by
      rw [← hw]
      have := S0.out
      exact ⟨this.row, this.ne, this.only.mono (by simp), by simpa using HT.out⟩, by rw [if_neg (by decide), ← hw]; exact hst.out.alloc _⟩
    clear hw S0 hst
    generalize sput s at1 p = s2 at HP HE S
    refine wp_region_linp (StpPut w b s s2 p) (fun _ _ => False) (fun i => i == 8) (fun i => [.pointer (some ⟨B, 0, none⟩), .pointer (some ⟨B, 0, none⟩), .pointer (some ⟨B, 0, none⟩), .pointer (some ⟨B, 0, none⟩), .pointer (some ⟨B, 0, none⟩), .pointer (some ⟨b.s, 0, none⟩), .int .i64 at1, pageV p, .int .i64 0, .tuple #[]].getD i undef) false (by kernel_rfl) (by kernel_rfl) (fun _ _ _ _ h => h.elim) ⟨S.out.1.drew, S.out.2.drew⟩ ?_
    refine linp_step (i := 0) (d := some 6) (v := (.pointer (some ⟨B, 0, none⟩))) rfl rfl (by kernel_rfl) (by kernel_rfl) rfl rfl (ord_value (by kernel_rfl) ?_) ?_
    · ((intro _ _ _; go_simp) <;> kernel_rfl)
    try simp only [Act.put, puA, puB, puC]
    refine linp_step (i := 1) (d := some 7) (v := (.pointer (some ⟨B, 0, none⟩))) rfl rfl (by kernel_rfl) (by kernel_rfl) rfl rfl (ord_value (by kernel_rfl) ?_) ?_
    · ((intro _ _ _; go_simp) <;> kernel_rfl)
    try simp only [Act.put, puA, puB, puC]
    refine linp_step (i := 2) (d := some 8) (v := (.pointer (some ⟨B, 0, none⟩))) rfl rfl (by kernel_rfl) (by kernel_rfl) rfl rfl (ord_value (by kernel_rfl) ?_) ?_
    · ((intro _ _ _; go_simp) <;> kernel_rfl)
    try simp only [Act.put, puA, puB, puC]
    refine linp_step (i := 3) (d := some 9) (v := (.pointer (some ⟨B, 0, none⟩))) rfl rfl (by kernel_rfl) (by kernel_rfl) rfl rfl (ord_value (by kernel_rfl) ?_) ?_
    · ((intro _ _ _; go_simp) <;> kernel_rfl)
    try simp only [Act.put, puA, puB, puC]
    refine linp_step (i := 4) (d := some 10) (v := (.pointer (some ⟨B, 0, none⟩))) rfl rfl (by kernel_rfl) (by kernel_rfl) rfl rfl (ord_value (by kernel_rfl) ?_) ?_
    · ((intro _ _ _; go_simp) <;> kernel_rfl)
    try simp only [Act.put, puA, puB, puC]
    refine linp_step (i := 5) (d := some 11) (v := (.pointer (some ⟨b.s, 0, none⟩))) rfl rfl (by kernel_rfl) (by kernel_rfl) rfl rfl (ord_value (by kernel_rfl) ?_) ?_
    · (intro sZ wZ hZ; have cZ := (fun k W hS => HC.out s s2 k W hS) sZ wZ hZ; go_simp)
    try simp only [Act.put, puA, puB, puC]
    refine linp_step (i := 6) (d := some 12) (v := (.int .i64 at1)) rfl rfl (by kernel_rfl) (by kernel_rfl) rfl rfl (ord_value (by kernel_rfl) ?_) ?_
    · ((intro _ _ _; go_simp) <;> kernel_rfl)
    try simp only [Act.put, puA, puB, puC]
    refine linp_step (i := 7) (d := some 13) (v := (pageV p)) rfl rfl (by kernel_rfl) (by kernel_rfl) rfl rfl (ord_page (by kernel_rfl) (.tmp 5) rfl rfl (fun k W hS => hS.1.page 0 rfl HL.out)) ?_
    try simp only [Act.put, puA, puB, puC]
    refine linp_turn (i := 8) (d := some 14) (fun u k => u = .int .i64 0 ∧ k = true) rfl rfl (by kernel_rfl) (by kernel_rfl) rfl (by kernel_rfl) ⟨_, _, rfl, rfl⟩ (by kernel_rfl) (gives_all (f := 76) (args := #[.pointer (some ⟨b.s, 0, none⟩), .int .i64 at1, pageV p]) ?_ (fun W hS => (HP.out W hS).mono fun e w' hh => Or.inl ⟨_, hh.1, true, ⟨rfl, rfl⟩, hh.2⟩)) ?_
    · (intro _; go_simp)
    rintro _ _ ⟨rfl, rfl⟩
    try simp only [Act.put, puA, puB, puC]
    refine linp_step (i := 9) (d := some 15) (v := (.tuple #[])) rfl rfl (by kernel_rfl) (by kernel_rfl) rfl rfl (ord_call (f := 81) (args := #[.pointer (some ⟨B, 0, none⟩), .int .i64 0]) (by kernel_rfl) ?_ (fun k W hS => (must_ok B).mono fun e w' hh => ⟨hh.1, hh.2 ▸ hS⟩)) ?_
    · (intro _; go_simp)
    try simp only [Act.put, puA, puB, puC]
    refine linp_done (by kernel_rfl) fun W hS => ?_
    go_wp2
    go_end0
    exact HE.out _ hS
  · have HP : Hid (∀ W, StpPut w b s s p false W → Calls Tryz.prog 76 #[.pointer (some ⟨b.s, 0, none⟩), .int .i64 at1, pageV p] W fun e w' => e = .returned (.int .i64 28) ∧ StpPut w b s s p true w') := Lib.hid (fun W hS => by
      have := sput_any (show StoreAt W b s from hS.2) at1 p hp
      rw [e1, e2] at this
      exact this.mono (fun e w' hh => ⟨hh.1, hS.1.call hh.2.2 (fun k hk => hk), hh.2.1⟩))
    have HE : Hid (∀ W, StpPut w b s s p true W → Calls Tryz.prog 81 #[.pointer (some ⟨B, 0, none⟩), .int .i64 28] W fun e w' => e = .panicked [failE B] ∧ R (.panicked [failE B]) w') := Lib.hid (fun W hS => by
      have C : Ctx W B b s n I := ⟨h.step.block (hS.1.only.block B h.lt (by simp; exact fun q => h.nb (q ▸ b.t_mem))), hS.2, h.vs, h.nb⟩
      refine (must_no C 28 (by decide)).mono fun e w' hh => ⟨hh.1, H.out _ _ (Or.inr ⟨28, Or.inr ⟨rfl, e3⟩, by decide, hh.2.1, rfl, ?_⟩)⟩
      exact (hS.1.only.mono (fun k hk => by simp at hk ⊢; exact Or.inr hk)).via hh.2.2 (fun i hi => Or.inl (by simp at hi ⊢; exact Or.inl hi)))
    have hst := Lib.hid h.store
    clear h ha e1 e2 e3 H
    go_enter Tryz.func66, Tryz.ntmps66
    go_wp2_with fail
    rename_i cs hcs
    obtain rfl : cs = (byteVals p).toArray := by unfold pageV at hcs; injection hcs with hcs; exact hcs.symm
    clear hcs
    generalize hw : World.alloc _ _ = w1
    have S : Hid (StpPut w b s s p false w1) := Lib.hid ⟨by
      rw [← hw]
      have := S0.out
      exact ⟨this.row, this.ne, this.only.mono (by simp), by simpa using HT.out⟩, by rw [if_neg (by decide), ← hw]; exact hst.out.alloc _⟩
    clear hw S0 hst
    refine wp_region_linp (SO (StpPut w b s s p)) (fun ch W => ch = [failE B] ∧ R (.panicked [failE B]) W) (fun i => i == 8 || i == 9) (fun i => [.pointer (some ⟨B, 0, none⟩), .pointer (some ⟨B, 0, none⟩), .pointer (some ⟨B, 0, none⟩), .pointer (some ⟨B, 0, none⟩), .pointer (some ⟨B, 0, none⟩), .pointer (some ⟨b.s, 0, none⟩), .int .i64 at1, pageV p].getD i undef) (some false) (by kernel_rfl) (by kernel_rfl) (fun ch a' W hd hh => ?_) ⟨S.out.1.drew, S.out.2.drew⟩ ?_
    · exact ⟨hd, by obtain ⟨rfl, hR⟩ := hh; exact hR⟩
    refine linp_step (i := 0) (d := some 6) (v := (.pointer (some ⟨B, 0, none⟩))) rfl rfl (by kernel_rfl) (by kernel_rfl) rfl rfl (ord_value (by kernel_rfl) ?_) ?_
    · ((intro _ _ _; go_simp) <;> kernel_rfl)
    try simp only [Act.put, puA, puB, puC]
    refine linp_step (i := 1) (d := some 7) (v := (.pointer (some ⟨B, 0, none⟩))) rfl rfl (by kernel_rfl) (by kernel_rfl) rfl rfl (ord_value (by kernel_rfl) ?_) ?_
    · ((intro _ _ _; go_simp) <;> kernel_rfl)
    try simp only [Act.put, puA, puB, puC]
    refine linp_step (i := 2) (d := some 8) (v := (.pointer (some ⟨B, 0, none⟩))) rfl rfl (by kernel_rfl) (by kernel_rfl) rfl rfl (ord_value (by kernel_rfl) ?_) ?_
    · ((intro _ _ _; go_simp) <;> kernel_rfl)
    try simp only [Act.put, puA, puB, puC]
    refine linp_step (i := 3) (d := some 9) (v := (.pointer (some ⟨B, 0, none⟩))) rfl rfl (by kernel_rfl) (by kernel_rfl) rfl rfl (ord_value (by kernel_rfl) ?_) ?_
    · ((intro _ _ _; go_simp) <;> kernel_rfl)
    try simp only [Act.put, puA, puB, puC]
    refine linp_step (i := 4) (d := some 10) (v := (.pointer (some ⟨B, 0, none⟩))) rfl rfl (by kernel_rfl) (by kernel_rfl) rfl rfl (ord_value (by kernel_rfl) ?_) ?_
    · ((intro _ _ _; go_simp) <;> kernel_rfl)
    try simp only [Act.put, puA, puB, puC]
    refine linp_step (i := 5) (d := some 11) (v := (.pointer (some ⟨b.s, 0, none⟩))) rfl rfl (by kernel_rfl) (by kernel_rfl) rfl rfl (ord_value (by kernel_rfl) ?_) ?_
    · (intro sZ wZ hZ; have cZ := (SO.all (fun k W hS => HC.out s s k W hS)) sZ wZ hZ; go_simp)
    try simp only [Act.put, puA, puB, puC]
    refine linp_step (i := 6) (d := some 12) (v := (.int .i64 at1)) rfl rfl (by kernel_rfl) (by kernel_rfl) rfl rfl (ord_value (by kernel_rfl) ?_) ?_
    · ((intro _ _ _; go_simp) <;> kernel_rfl)
    try simp only [Act.put, puA, puB, puC]
    refine linp_step (i := 7) (d := some 13) (v := (pageV p)) rfl rfl (by kernel_rfl) (by kernel_rfl) rfl rfl (ord_page (by kernel_rfl) (.tmp 5) rfl rfl (SO.all (fun k W hS => hS.1.page 0 rfl HL.out))) ?_
    try simp only [Act.put, puA, puB, puC]
    refine linp_turn (i := 8) (d := some 14) (fun u k => u = .int .i64 28 ∧ k = some true) rfl rfl (by kernel_rfl) (by kernel_rfl) rfl (by kernel_rfl) ⟨_, _, rfl, rfl⟩ (by kernel_rfl) (gives_all (f := 76) (args := #[.pointer (some ⟨b.s, 0, none⟩), .int .i64 at1, pageV p]) ?_ (fun W hS => (HP.out W hS).mono fun e w' hh => Or.inl ⟨_, hh.1, some true, ⟨rfl, rfl⟩, hh.2⟩)) ?_
    · (intro _; go_simp)
    rintro _ _ ⟨rfl, rfl⟩
    try simp only [Act.put, puA, puB, puC]
    refine linp_turn (i := 9) (d := some 15) (fun _ k => k = none) rfl rfl (by kernel_rfl) (by kernel_rfl) rfl (by kernel_rfl) ⟨undef, _, rfl⟩ (by kernel_rfl) (gives_all (f := 81) (args := #[.pointer (some ⟨B, 0, none⟩), .int .i64 28]) ?_ (fun W hS => (HE.out W hS).mono fun e w' hh => Or.inr ⟨_, hh.1, rfl, hh.2⟩)) ?_
    · (intro _; go_simp)
    rintro _ _ rfl
    exact linp_done (by kernel_rfl) fun W hS => hS.elim
end

section
open Go.RowKit Go.Maps
open Dk (zeros zeros_length)
open Ii (Ino)
section
variable {α : Type} {B : Nat} {b : Blk} {n I : Int} {Ls : List Nat} {w w1 w' : World} {K : α → Ending → World → Prop} {s : Sto} {e : Ending}
theorem Ends.told {f : Fs.View → Except Int α} {a : α} (E : f (nv s) = .ok a) (C : Ctx w B b s n I) (hb : Below w.heap.size w w') (hK : K a e w') : Ends B b n I Ls w s (Fs.tell f) K e w' :=
  Or.inl ⟨a, s, [], by unfold Fs.tell; rw [E], Goes.refl s, C.below hb, hK, Only.below hb⟩
theorem Ends.untold {f : Fs.View → Except Int α} {er : Int} (E : f (nv s) = .error er) (h0 : er ≠ 0) (hb : Below w.heap.size w w1) (Br : Broke w' B b s n I er) (O : Only [B] w1 w') : Ends B b n I Ls w s (Fs.tell f) K (.panicked [failE B]) w' :=
  Or.inr ⟨er, Or.inl ⟨nv s, [], by unfold Fs.tell; rw [E]⟩, h0, Br, rfl, (show Only (B :: b.t :: Ls) w w1 from Only.below hb).via O (fun i hi => Or.inl (by simp at hi ⊢; exact Or.inl hi))⟩
theorem Ends.later {m : Fs.M α} {w0 : World} (hl : Only (b.t :: Ls) w0 w) (h : Ends B b n I Ls w s m K e w') : Ends B b n I Ls w0 s m K e w' := by
  rcases h with ⟨a, s', L, E, G, C, hK, O⟩ | ⟨er, F, h0, Br, he, O⟩
  · exact Or.inl ⟨a, s', L, E, G, C, hK, hl.via O (fun i hi => Or.inl hi)⟩
  · exact Or.inr ⟨er, F, h0, Br, he, (hl.mono (fun k hk => List.mem_cons_of_mem _ hk)).via O (fun i hi => Or.inl hi)⟩
theorem Ends.same {m m' : Fs.M α} (hm : m (nv s) = m' (nv s)) (h : Ends B b n I Ls w s m' K e w') : Ends B b n I Ls w s m K e w' := by
  unfold Ends Fails at h ⊢
  rw [hm]; exact h
theorem Ends.unit {R : Ending → World → Prop} {m : Fs.M Unit} (H : Hid (∀ e w', Ends B b n I [] w s m (fun _ e _ => e = .returned (.tuple #[])) e w' → R e w')) (h : Ends B b n I [] w s m (fun _ e _ => e = .returned (.tuple #[])) e w') :
    (e = .panicked [failE B] ∧ R (.panicked [failE B]) w') ∨ (e = .returned (.tuple #[]) ∧ R (.returned (.tuple #[])) w') := by
  have hR := H.out e w' h
  rcases h with ⟨a, s', L, E, G, C, rfl, O⟩ | ⟨er, F, h0, Br, rfl, O⟩
  · exact Or.inr ⟨rfl, hR⟩
  · exact Or.inl ⟨rfl, hR⟩
end
theorem ino_box (w : World) : Lo [] w [(w.heap.size, inoL Ii.zero)] (w.alloc (.cells (inoL Ii.zero).toArray 47)) :=
  (Lo.start w (by simp)).alloc _ rfl (inoL Ii.zero) _
theorem smustTaken_any {w : World} {B : Nat} {b : Blk} {s : Sto} {n I : Int} (h : Ctx w B b s n I) (i : Int) : Calls Tryz.prog 63 #[.pointer (some ⟨B, 0, none⟩), .int .i64 i] w (Ends B b n I [] w s (Fs.tell (Fs.takenF I i)) fun x e _ => e = .returned (inoV x)) := by
  refine calls_of fun R H => ?_
  have S := Lib.hid (ino_box w)
  have HB : Hid (∀ W l, Lo [] w l W → W.rangeAt B 0 (baseL b.s n I)) := Lib.hid (fun W l hl => (Lo.ctx (L := []) hl h).step.base)
  have HC := Lib.hid h
  rcases taken_or I i (nv s) with hx | ⟨x, hx⟩
  · have HT : Hid (∀ W l, Lo [] w l W → Calls Tryz.prog 110 #[baseV b.s n I, .int .i64 i] W fun e w' => e = .returned (.tuple #[inoV Ii.zero, .int .i64 22]) ∧ Below W.heap.size W w') := Lib.hid (fun W l hl => btaken_no (hl.store h.store) h.vs i hx)
    have HM : Hid (∀ W l, Lo [] w l W → Calls Tryz.prog 81 #[.pointer (some ⟨B, 0, none⟩), .int .i64 22] W fun e w' => e = .panicked [failE B] ∧ R (.panicked [failE B]) w') := Lib.hid (fun W l hl => (must_no (Lo.ctx (L := []) hl h) 22 (by decide)).mono fun e w' hh => ⟨hh.1, H.out _ _ (Ends.untold hx (by decide) hl.bel hh.2.1 hh.2.2)⟩)
    clear h hx H
    go_enter Tryz.func63, Tryz.ntmps63
    go_wp2_with (first
      | (with_reducible refine wpList_load_base (HB.out _ _ S.out) rfl (.tmp 10) rfl rfl ?_)
      | (go_at_call 110; refine (HT.out _ _ S.out).mono ?_; rintro e w1 ⟨rfl, hb⟩; replace S := Lib.hid (S.out.below hb); clear hb)
      | ((with_reducible refine wpList_store_newrow (vs := inoL Ii.zero) inoT ?_ (inoL_one _) rfl (.tmp 5) (.tmp 14) rfl rfl ?_ ?_ ?_); (exact rfl); (exact rfl); (exact rfl); intro W4 hP hB2 hz2; replace S := Lib.hid (S.out.made hP hB2 hz2); clear hP hB2 hz2)
      | (go_at_call 81; refine (HM.out _ _ S.out).mono ?_; rintro e w1 ⟨rfl, hR⟩))
    exact ⟨rfl, hR⟩
  · have HT : Hid (∀ W l, Lo [] w l W → Calls Tryz.prog 110 #[baseV b.s n I, .int .i64 i] W fun e w' => e = .returned (.tuple #[inoV x, .int .i64 0]) ∧ Below W.heap.size W w') := Lib.hid (fun W l hl => btaken_yes (hl.store h.store) h.vs i hx)
    have HE : Hid (∀ W l, Lo [] w l W → R (.returned (inoV x)) W) := Lib.hid (fun W l hl => H.out _ _ (Ends.told hx h hl.bel rfl))
    clear h hx H
    go_enter Tryz.func63, Tryz.ntmps63
    go_wp2_with (first
      | (with_reducible refine wpList_load_base (HB.out _ _ S.out) rfl (.tmp 10) rfl rfl ?_)
      | (go_at_call 110; refine (HT.out _ _ S.out).mono ?_; rintro e w1 ⟨rfl, hb⟩; replace S := Lib.hid (S.out.below hb); clear hb)
      | ((with_reducible refine wpList_store_newrow (vs := inoL x) inoT ?_ (inoL_one _) rfl (.tmp 5) (.tmp 14) rfl rfl ?_ ?_ ?_); (exact rfl); (exact rfl); (exact rfl); intro W4 hP hB2 hz2; replace S := Lib.hid (S.out.made hP hB2 hz2); clear hP hB2 hz2)
      | (go_at_call 81; (with_reducible refine (must_ok _).mono ?_); rintro e w1 ⟨rfl, rfl⟩)
      | (with_reducible refine wpList_load_rw inoT (S.out.get 1 _ rfl) rfl rfl (.tmp 5) rfl rfl ?_)
      | ((with_reducible refine wpList_store_rw (vs := inoL x) inoT (S.out.get 0 _ rfl) ?_ ?_ (inoL_one _) rfl (.tmp 4) (.tmp 19) rfl ?_ ?_ ?_); (exact rfl); (exact rfl); (exact rfl); (exact rfl)))
    have S2 := Lib.hid (S.out.put 0 _ rfl (inoL x) rfl)
    exact bodyPost_ret (results_row1 inoT _ 4 rfl _ (S2.out.get 0 _ rfl) rfl rfl) rfl (HE.out _ _ S2.out)
theorem dat_box (w : World) : Lo [] w [(w.heap.size, byteVals zeros)] (w.alloc (.cells zeroCells 97)) :=
  (Lo.start w (by simp)).alloc _ rfl (byteVals zeros) _
theorem smustData_any {w : World} {B : Nat} {b : Blk} {s : Sto} {n I : Int} (h : Ctx w B b s n I) (m : Int) : Calls Tryz.prog 68 #[.pointer (some ⟨B, 0, none⟩), .int .i64 m] w (Ends B b n I [] w s (Fs.tell (Fs.dataF n I m)) fun p e _ => e = .returned (pageV p)) := by
  refine calls_of fun R H => ?_
  have S0 := Lib.hid (dat_box w)
  have HB : Hid (∀ W l, Lo [] w l W → W.rangeAt B 0 (baseL b.s n I)) := Lib.hid (fun W l hl => (Lo.ctx (L := []) hl h).step.base)
  have HD : Hid (∀ W l, Lo [] w l W → Calls Tryz.prog 116 #[baseV b.s n I, .int .i64 m] W fun e w' => e = .returned (exV pageV (pageV zeros) (Fs.dataF n I m (nv s))) ∧ Below W.heap.size W w') := Lib.hid (fun W l hl => bdata_any (hl.store h.store) h.vs m)
  cases hd : Fs.dataF n I m (nv s) with
  | error er =>
    obtain rfl := data_err hd
    rw [hd] at HD
    simp only [exV] at HD
    have HM : Hid (∀ W l, Lo [] w l W → Calls Tryz.prog 81 #[.pointer (some ⟨B, 0, none⟩), .int .i64 5] W fun e w' => e = .panicked [failE B] ∧ R (.panicked [failE B]) w') := Lib.hid (fun W l hl => (must_no (Lo.ctx (L := []) hl h) 5 (by decide)).mono fun e w' hh => ⟨hh.1, H.out _ _ (Ends.untold hd (by decide) hl.bel hh.2.1 hh.2.2)⟩)
    have c0 : ∀ o, (w.alloc o).rangeAt B 0 (baseL b.s n I) := fun o => ((h.step.alloc o).base)
    clear h hd H
    go_enter Tryz.func68, Tryz.ntmps68
    go_wp2_with (with_reducible refine wpList_load_base (c0 _) rfl (.tmp 10) rfl rfl ?_)
    rw [← zeroCells_def]
    generalize hw : World.alloc _ _ = w1
    have S : Hid (Lo [] w [(w.heap.size, byteVals zeros)] w1) := Lib.hid (by rw [← hw]; exact S0.out)
    clear hw S0 c0
    go_wp2_with (first
      | (go_at_call 116; refine (HD.out _ _ S.out).mono ?_; rintro e w1 ⟨rfl, hb⟩; replace S := Lib.hid (S.out.below hb); clear hb)
      | ((with_reducible refine wpList_store_new rfl (.tmp 5) (.tmp 14) rfl rfl ?_ ?_ zeros_length ?_); (exact rfl); (exact rfl); intro W2 hP hB2 hz2; replace S := Lib.hid (S.out.made hP.rowAt hB2 hz2); clear hP hB2 hz2)
      | (go_at_call 81; refine (HM.out _ _ S.out).mono ?_; rintro e w1 ⟨rfl, hR⟩))
    exact ⟨rfl, hR⟩
  | ok p =>
    have HL := Lib.hid (data_len h.vs hd)
    rw [hd] at HD
    simp only [exV] at HD
    have HE : Hid (∀ W l, Lo [] w l W → R (.returned (pageV p)) W) := Lib.hid (fun W l hl => H.out _ _ (Ends.told hd h hl.bel rfl))
    have c0 : ∀ o, (w.alloc o).rangeAt B 0 (baseL b.s n I) := fun o => ((h.step.alloc o).base)
    clear h hd H
    go_enter Tryz.func68, Tryz.ntmps68
    go_wp2_with (with_reducible refine wpList_load_base (c0 _) rfl (.tmp 10) rfl rfl ?_)
    rw [← zeroCells_def]
    generalize hw : World.alloc _ _ = w1
    have S : Hid (Lo [] w [(w.heap.size, byteVals zeros)] w1) := Lib.hid (by rw [← hw]; exact S0.out)
    clear hw S0 c0
    go_wp2_with (first
      | (go_at_call 116; refine (HD.out _ _ S.out).mono ?_; rintro e w1 ⟨rfl, hb⟩; replace S := Lib.hid (S.out.below hb); clear hb)
      | ((with_reducible refine wpList_store_new rfl (.tmp 5) (.tmp 14) rfl rfl ?_ ?_ HL.out ?_); (exact rfl); (exact rfl); intro W2 hP hB2 hz2; replace S := Lib.hid (S.out.made hP.rowAt hB2 hz2); clear hP hB2 hz2)
      | (go_at_call 81; (with_reducible refine (must_ok _).mono ?_); rintro e w1 ⟨rfl, rfl⟩)
      | (with_reducible refine wpList_load_page (S.out.page 1 rfl HL.out) rfl (.tmp 5) rfl rfl ?_)
      | ((with_reducible refine wpList_store_page (S.out.page 0 rfl zeros_length) HL.out rfl (.tmp 4) (.tmp 19) rfl rfl ?_ ?_); (exact rfl)))
    have S2 := Lib.hid (S.out.putP 0 rfl zeros_length p HL.out)
    exact bodyPost_ret (results_page _ 4 rfl _ (S2.out.page 0 rfl HL.out) rfl) rfl (HE.out _ _ S2.out)
end

section
open Go.ChangeShapes Go.WideShapes Go.ChangeAt Go.RowKit
structure Row (w : World) (A : Option Addr) (n : Nat) (bs : List UInt8) : Prop where
  len : bs.length = 64 * n
  small : n ≤ maxLen
  nul : A = none → n = 0
  cells : 0 < n → ∃ b off, A = some ⟨b, off, none⟩ ∧ b < w.heap.size ∧ ∀ j, j < 64 * n → w.cell? ⟨b, off + j, none⟩ = some (.int .u8 ((bs.getD j 0).toNat : Int))
theorem Row.keep {w w' : World} {A : Option Addr} {n : Nat} {bs : List UInt8} (h : Row w A n bs) (hs : w.heap.size ≤ w'.heap.size) (hb : 0 < n → ∀ b off, A = some ⟨b, off, none⟩ → b < w.heap.size → w'.heap[b]? = w.heap[b]?) : Row w' A n bs where
  len := h.len
  small := h.small
  nul := h.nul
  cells := fun hn => by
    obtain ⟨b, off, rfl, hlt, hc⟩ := h.cells hn
    exact ⟨b, off, rfl, Nat.lt_of_lt_of_le hlt hs, fun j hj => (World.cell?_of_block (a := ⟨b, off + j, none⟩) (hb hn b off rfl hlt)).trans (hc j hj)⟩
theorem Row.step {w w' : World} {A : Option Addr} {n : Nat} {bs : List UInt8} (h : Row w A n bs) (hb : Below w.heap.size w w') : Row w' A n bs :=
  h.keep hb.size fun _ b _ _ hlt => hb.block b hlt
theorem Row.drewN {w : World} {A : Option Addr} {n : Nat} {bs : List UInt8} (h : Row w A n bs) (m : Nat) : Row (w.drewN m) A n bs :=
  h.keep (Nat.le_refl _) fun _ _ _ _ _ => rfl
def OwnB (W : World) (base : Nat) (v : Value) (n : Nat) (bs : List UInt8) : Prop := W.ownsRow base 97 64 v n (byteVals bs)
theorem bpage_type : ∃ i z, Tryz.prog.info? 97 = some i ∧ i.zero = some z ∧ i.size = 64 ∧ i.bytes = 64 ∧ z.cells.size = 64 := by
  have e : (Tryz.prog.info? 97).map (fun i => (i.zero.map (·.cells.size), i.size, i.bytes)) = some (some 64, 64, 64) := by kernel_rfl
  cases h : Tryz.prog.info? 97 with
  | none => rw [h] at e; cases e
  | some i =>
    rw [h] at e
    simp only [Option.map_some, Option.some.injEq, Prod.mk.injEq] at e
    obtain ⟨e1, e2, e3⟩ := e
    cases hz : i.zero with
    | none => rw [hz] at e1; cases e1
    | some z => rw [hz] at e1; exact ⟨i, z, rfl, hz, e2, e3, by simpa using e1⟩
theorem OwnB.len {W : World} {base : Nat} {v : Value} {n : Nat} {bs : List UInt8} (h : OwnB W base v n bs) : bs.length = 64 * n := by
  have := h.1
  rw [byteVals_length] at this
  omega
theorem OwnB.form {W : World} {base : Nat} {v : Value} {n : Nat} {bs : List UInt8} (h : OwnB W base v n bs) :
    ∃ A cap, v = .slice A n cap ∧ Row W A n bs ∧ (∀ b off, A = some ⟨b, off, none⟩ → base ≤ b ∧ off = 0) ∧ n ≤ cap := by
  have hl := h.len
  obtain ⟨hl', h'⟩ := id h
  rcases h' with ⟨rfl, h0⟩ | ⟨g, cap, cur, rfl, hb, hg, hc, hcm, hcs, ht⟩
  · exact ⟨none, 0, by rw [h0], ⟨hl, by unfold maxLen; omega, fun _ => h0, fun hn => by omega⟩, fun b off q => (by cases q), by omega⟩
  · have hlt : g < W.heap.size := by
      rcases Nat.lt_or_ge g W.heap.size with hlt | hge
      · exact hlt
      · rw [Array.getElem?_eq_none hge] at hg; cases hg
    refine ⟨some ⟨g, 0, none⟩, cap, rfl, ⟨hl, Nat.le_trans hc hcm, fun q => (by cases q), fun hn => ⟨g, 0, rfl, hlt, fun j hj => ?_⟩⟩, fun b off q => ?_, hc⟩
    · have hj' : j < bs.length := by omega
      have := World.ownsRow.cellAt h j (by omega)
      rw [Nat.zero_add, this, byteVals_at bs j hj', List.getD_eq_getElem?_getD, List.getElem?_eq_getElem hj']; rfl
    · injection q with q; injection q with q1 q2; exact ⟨by omega, q2.symm⟩
theorem grown_below {W W' : World} (hb : Below W.heap.size W W') : W.grownBy W' none := ⟨hb.os, hb.tape, hb.output, hb.size, fun k hk _ => hb.block k hk⟩
theorem OwnB.step {W W' : World} {base : Nat} {v : Value} {n : Nat} {bs : List UInt8} (h : OwnB W base v n bs) (hb : Below W.heap.size W W') : OwnB W' base v n bs := by
  refine World.ownsRow.kept h (grown_below hb) ?_
  cases hv : v.ownBlock with
  | none => exact Or.inl rfl
  | some g => exact Or.inr (fun e => by cases e)
theorem bbelow_drewN (N : Nat) (w : World) (m : Nat) : Below N w (w.drewN m) := ⟨rfl, rfl, rfl, Nat.le_refl _, fun _ _ => rfl⟩
end

section
open Go.RowKit
theorem bthere_yes (i n : Nat) (A : Option Addr) (c : Nat) (w : World) (hn : n ≤ 1000) (h : i < n * 512) :
    Calls Tryz.prog 129 #[.int .i64 (i : Int), .slice A n c] w fun e w' => e = .returned (.bool true) ∧ w = w' := by
  go_enter Tryz.func129, Tryz.ntmps129
  go_wp2
  go_ret
  exact ⟨ret_bool (by simp; omega), rfl⟩
theorem bthere_no (i : Int) (n : Nat) (A : Option Addr) (c : Nat) (w : World) (hn : n ≤ 1000) (h : ¬ (0 ≤ i ∧ i < (n : Int) * 512)) :
    Calls Tryz.prog 129 #[.int .i64 i, .slice A n c] w fun e w' => e = .returned (.bool false) ∧ w = w' := by
  go_enter Tryz.func129, Tryz.ntmps129
  by_cases c1 : 0 ≤ i
  · go_wp2
    go_ret
    exact ⟨ret_bool (by simp; omega), rfl⟩
  · go_wp2
    go_ret
    exact ⟨rfl, rfl⟩
theorem place_any (i : Nat) (w : World) (h : i < 512000) :
    Calls Tryz.prog 130 #[.int .i64 (i : Int)] w fun e w' => e = .returned (.tuple #[.int .i64 ((i / 512 : Nat) : Int), .int .i64 ((i % 512 / 8 : Nat) : Int), .int .u8 ((Bt.pw (i % 8) : Nat) : Int)]) ∧ ∃ m, w' = w.drewN m := by
  have hr : Hid ((2 ^ (i % 8) : Int) % 256 = ((Bt.pw (i % 8) : Nat) : Int)) := Lib.hid (by
    have hp := Bt.pw_lt (i % 8) (Nat.mod_lt _ (by omega))
    have e : ((Bt.pw (i % 8) : Nat) : Int) = (2 ^ (i % 8) : Int) := by rw [Bt.pw_def]; push_cast; rfl
    rw [← e]; exact Int.emod_eq_of_lt (by omega) (by omega))
  go_enter Tryz.func130, Tryz.ntmps130
  go_wp2
  go_quiet (fail)
  go_wp2
  go_ret3
  refine ⟨?_, _, rfl⟩
  simp [hr.out]
theorem Row.byte {w : World} {b off n : Nat} {bs : List UInt8} (hc : ∀ j, j < 64 * n → w.cell? ⟨b, off + j, none⟩ = some (.int .u8 ((bs.getD j 0).toNat : Int))) (i : Nat) (h : i < n * 512) :
    w.cell? ⟨b, off + i / 512 * 64 + i % 512 / 8, none⟩ = some (.int .u8 ((bs.getD (i / 8) 0).toNat : Int)) := by
  have e : i / 512 * 64 + i % 512 / 8 = i / 8 := by omega
  have := hc (i / 8) (by omega)
  rw [Nat.add_assoc, e]; exact this
theorem bget_no (i : Int) (A : Option Addr) (n c : Nat) (w : World) (hn : n ≤ 1000) (h : ¬ (0 ≤ i ∧ i < (n : Int) * 512)) :
    Calls Tryz.prog 192 #[.int .i64 i, .slice A n c] w fun e w' => e = .returned (.bool false) ∧ ∃ m, w' = w.drewN m := by
  have HH := Lib.hid h; clear h
  go_enter Tryz.func192, Tryz.ntmps192
  go_wp2_with (go_at_call 129; refine (bthere_no _ _ _ _ _ hn HH.out).mono ?_; rintro e w' ⟨rfl, rfl⟩)
  go_ret
  exact ⟨rfl, 0, rfl⟩
theorem bget_yes (i : Nat) (b off n c : Nat) (bs : List UInt8) (w : World) (hn : n ≤ 1000) (h : i < n * 512)
    (hc : ∀ j, j < 64 * n → w.cell? ⟨b, off + j, none⟩ = some (.int .u8 ((bs.getD j 0).toNat : Int))) :
    Calls Tryz.prog 192 #[.int .i64 (i : Int), .slice (some ⟨b, off, none⟩) n c] w fun e w' => e = .returned (.bool (Bt.bit bs i)) ∧ ∃ m, w' = w.drewN m := by
  have hb := Row.byte hc i h
  clear hc
  have hi : i < 512000 := by omega
  have hx := (bs.getD (i / 8) 0).toNat_lt
  have hp := Bt.pw_lt (i % 8) (Nat.mod_lt _ (by omega))
  have HB : Hid (Bt.bit bs i = !decide ((bs.getD (i / 8) 0).toNat &&& Bt.pw (i % 8) = 0)) := Lib.hid (by
    unfold Bt.bit
    rw [Bt.pw_def]
    have := Bt.and_bit (bs.getD (i / 8) 0).toNat (i % 8)
    cases hq : (bs.getD (i / 8) 0).toNat.testBit (i % 8) <;> simp_all)
  generalize (bs.getD (i / 8) 0).toNat = x at hb hx HB
  have hq1 : i / 512 < n := by omega
  have hq2 : i % 512 / 8 < 64 := by omega
  go_enter Tryz.func192, Tryz.ntmps192
  go_wp2_with (first | (go_at_call 129; refine (bthere_yes _ _ _ _ _ hn h).mono ?_; rintro e w' ⟨rfl, rfl⟩) | (go_at_call 130; refine (place_any _ _ hi).mono ?_; rintro e w' ⟨rfl, m, rfl⟩))
  go_ret
  refine ⟨ret_bool ?_, _, rfl⟩
  rw [HB.out, u8_and_nat _ _ hx hp]
  cases hz : decide (x &&& Bt.pw (i % 8) = 0) <;> simp_all
theorem bget_any (i : Int) (A : Option Addr) (n c : Nat) (bs : List UInt8) (w : World) (h : Row w A n bs) (hn : n ≤ 1000) :
    Calls Tryz.prog 192 #[.int .i64 i, .slice A n c] w fun e w' => e = .returned (.bool (Bt.getB bs i)) ∧ ∃ m, w' = w.drewN m := by
  by_cases hi : 0 ≤ i ∧ i < (n : Int) * 512
  · obtain ⟨k, rfl⟩ := Int.eq_ofNat_of_zero_le hi.1
    obtain ⟨b, off, rfl, _, hc⟩ := h.cells (by omega)
    rw [Bt.getB_nat]
    exact bget_yes k b off n c bs w hn (by omega) hc
  · rw [Bt.getB_no bs n h.len i hi]
    exact bget_no i A n c w hn hi
end

section
open Go.RowKit
theorem own_empty (w : World) : OwnB (w.alloc (.cells #[] 97)) w.heap.size (.slice (some ⟨w.heap.size, 0, none⟩) 0 0) 0 [] := World.ownsRow_made w #[] 0 (Nat.le_refl _) (Nat.zero_le _) rfl
theorem byteVals_cell {w : World} {b off n : Nat} {bs : List UInt8} (hl : bs.length = 64 * n) (hc : ∀ j, j < 64 * n → w.cell? ⟨b, off + j, none⟩ = some (.int .u8 ((bs.getD j 0).toNat : Int))) :
    ∀ j u, (byteVals bs)[j]? = some u → w.cell? ((⟨b, off, none⟩ : Addr).add j) = some u := by
  intro j u hu
  have hj : j < bs.length := by
    have := (List.getElem?_eq_some_iff.1 hu).1
    rwa [byteVals_length] at this
  rw [byteVals_at bs j hj] at hu
  have := hc j (by omega)
  rw [List.getD_eq_getElem?_getD, List.getElem?_eq_getElem hj, Option.getD_some] at this
  rw [Addr.add_mid, this, hu]
theorem wpList_copy {ops : Array Oper} {rest : List Oper} {o : Oper} {a : Act} {Q : Exit → Act → World → Prop} {w : World} {A : Option Addr} {n c : Nat} {bs : List UInt8} (hr : Row w A n bs) (hn : n ≤ 1000) (hA : A ≠ none)
    (hgd : o.guard = none) (s x : Operand) (ho : o.op = .call { callee := .builtin .append, args := #[s, x], argTypes := #[86, 86] }) (hs : a.eval s = .slice (some ⟨w.heap.size, 0, none⟩) 0 0) (hx : a.eval x = .slice A n c)
    (h : ∀ v w', OwnB w' w.heap.size v n bs → Below w.heap.size w w' → wpList Tryz.prog ops Q rest (a.put o.dst v) w') :
    wpList Tryz.prog ops Q (o :: rest) a (w.alloc (.cells #[] 97)) := by
  obtain ⟨i, z, hi, hz, h64, hby, hzs⟩ := bpage_type
  obtain ⟨ad, rfl⟩ := Option.ne_none_iff_exists'.1 hA
  refine wpList_append_own_at _ hgd s x 86 ho w.heap.size 97 i z 64 64 Tryz.underlying86 hi hz h64 hby hzs (by omega) _ 0 [] hs (own_empty w) ad n c (byteVals bs) hx (by rw [byteVals_length, hr.len]; omega) ?_ (byteVals_one bs) (by unfold maxLen; omega) (by omega) (by simp) ?_
  · intro j u hu
    have hj : j < bs.length := by
      have := (List.getElem?_eq_some_iff.1 hu).1
      rwa [byteVals_length] at this
    have hl := hr.len
    obtain ⟨b, off, e, hlt, hc⟩ := hr.cells (by omega)
    injection e with e
    subst e
    refine Eq.trans (World.cell?_of_block (w := w) (Below.heap_alloc w _ _ ?_)) (byteVals_cell hl hc j u hu)
    rw [Addr.add_mid]; exact hlt
  · intro v w' h1 h2 _ _
    rw [Nat.zero_add, List.nil_append] at h1
    refine h v w' h1 (((Below.refl _ w).alloc (Nat.le_refl _) _).grown h2 (by simp) ?_)
    intro k hk
    simp [Value.ownBlock] at hk
    omega
theorem clone_any (A : Option Addr) (n c : Nat) (bs : List UInt8) (w : World) (h : Row w A n bs) (hn : n ≤ 1000) :
    Calls Tryz.prog 128 #[.slice A n c] w fun e w' => ∃ v, e = .returned v ∧ OwnB w' w.heap.size v n bs ∧ Below w.heap.size w w' := by
  cases A with
  | none =>
    have h0 := h.nul rfl
    subst h0
    have hb : bs = [] := List.eq_nil_of_length_eq_zero (by rw [h.len])
    subst hb
    clear h
    have q22 := fun w : World => Lib.run_eql_slice_nil (P := Tryz.prog) w 86 97 none 0 c 0 0 Tryz.underlying86
    go_enter Tryz.func128, Tryz.ntmps128
    go_wp2
    go_ret
    exact ⟨_, rfl, World.ownsRow_nil _ _ _ _, Below.refl _ _⟩
  | some ad =>
    have HR := Lib.hid h; clear h
    have q22 := fun w : World => Lib.run_eql_slice_nil (P := Tryz.prog) w 86 97 (some ad) n c 0 0 Tryz.underlying86
    go_enter Tryz.func128, Tryz.ntmps128
    go_wp2_with (at_builtin; go_must (refine wpList_copy (c := c) HR.out hn (Option.some_ne_none ad) rfl (.tmp 5) (.tmp 6) rfl ?_ ?_ ?_); (exact rfl); (exact rfl); intro v w' h1 h2)
    go_ret
    exact ⟨_, rfl, h1, h2⟩
theorem OwnB.put {W : World} {base g cap n : Nat} {bs : List UInt8} (h : OwnB W base (.slice (some ⟨g, 0, none⟩) n cap) n bs) (j : Nat) (c : UInt8) :
    OwnB (W.setCell ⟨g, j, none⟩ (.int .u8 (c.toNat : Int))) base (.slice (some ⟨g, 0, none⟩) n cap) n (bs.set j c) ∧ W.grownBy (W.setCell ⟨g, j, none⟩ (.int .u8 (c.toNat : Int))) (some g) := by
  have := World.ownsRow.stored h j (.int .u8 (c.toNat : Int))
  rw [byteVals_set] at this
  exact this
theorem own_byte {W : World} {base g cap n : Nat} {bs : List UInt8} (h : OwnB W base (.slice (some ⟨g, 0, none⟩) n cap) n bs) (i : Nat) (hi : i < n * 512) :
    W.cell? ⟨g, i / 512 * 64 + i % 512 / 8, none⟩ = some (.int .u8 ((bs.getD (i / 8) 0).toNat : Int)) := by
  have hl := h.len
  have e : i / 512 * 64 + i % 512 / 8 = i / 8 := by omega
  have hj : i / 8 < bs.length := by omega
  have := World.ownsRow.cellAt h (i / 8) (by omega)
  rw [e, this, byteVals_at bs _ hj, List.getD_eq_getElem?_getD, List.getElem?_eq_getElem hj]; rfl
theorem bset_no (i : Int) (on1 : Bool) (A : Option Addr) (n c : Nat) (bs : List UInt8) (w : World) (h : Row w A n bs) (hn : n ≤ 1000) (hi : ¬ (0 ≤ i ∧ i < (n : Int) * 512)) :
    Calls Tryz.prog 85 #[.int .i64 i, .bool on1, .slice A n c] w fun e w' => ∃ v, e = .returned v ∧ OwnB w' w.heap.size v n bs ∧ Below w.heap.size w w' := by
  have HH := Lib.hid hi; clear hi
  have HR := Lib.hid h; clear h
  go_enter Tryz.func85, Tryz.ntmps85
  go_wp2_with (first | (go_at_call 128; refine (clone_any _ _ _ _ _ HR.out hn).mono ?_; rintro e w' ⟨v, rfl, ho, hb⟩; obtain ⟨A', c', rfl, _⟩ := OwnB.form ho) | (go_at_call 129; refine (bthere_no _ _ _ _ _ hn HH.out).mono ?_; rintro e w' ⟨rfl, rfl⟩))
  go_ret
  exact ⟨_, rfl, ho, hb⟩
theorem bset_yes (i : Nat) (on1 : Bool) (A : Option Addr) (n c : Nat) (bs : List UInt8) (w : World) (h : Row w A n bs) (hn : n ≤ 1000) (hi : i < n * 512) :
    Calls Tryz.prog 85 #[.int .i64 (i : Int), .bool on1, .slice A n c] w fun e w' => ∃ v, e = .returned v ∧ OwnB w' w.heap.size v n (Bt.setBit bs i on1) ∧ Below w.heap.size w w' := by
  have HR := Lib.hid h; clear h
  have hq1 : i / 512 < n := by omega
  have hq2 : i % 512 / 8 < 64 := by omega
  have hi' : i < 512000 := by omega
  obtain ⟨x, hxe0⟩ : ∃ x, bs.getD (i / 8) 0 = x := ⟨_, rfl⟩
  have hx := x.toNat_lt
  have hxe := Lib.hid hxe0; clear hxe0
  have hp := Bt.pw_lt (i % 8) (Nat.mod_lt _ (by omega))
  have HN : Hid (0 < n) := Lib.hid (by omega)
  cases on1 with
  | true =>
    have HV : Hid (bits .or .u8 (x.toNat : Int) (Bt.pw (i % 8) : Int) = ((Bt.byteSet x (i % 8) true).toNat : Int)) := Lib.hid (by rw [u8_or_nat _ _ hx hp, Bt.byteSet_on _ _ (Nat.mod_lt _ (by omega)), Bt.pw_def])
    go_enter Tryz.func85, Tryz.ntmps85
    go_wp2_with (first | (go_at_call 128; refine (clone_any _ _ _ _ _ HR.out hn).mono ?_; rintro e w' ⟨v, rfl, ho, hb⟩; obtain ⟨g, c', rfl, hg, _⟩ := World.ownsRow.form ho HN.out; have hcell := own_byte ho i hi; have hfr := World.ownsRow.frozenAt ho (i / 512 * 64 + i % 512 / 8); rw [hxe.out] at hcell; have HO := Lib.hid ho; clear ho) | (go_at_call 129; refine (bthere_yes _ _ _ _ _ hn hi).mono ?_; rintro e w' ⟨rfl, rfl⟩) | (go_at_call 130; refine (place_any _ _ hi').mono ?_; rintro e w' ⟨rfl, m, rfl⟩))
    go_region
    go_wp2
    go_ret
    have HQ := OwnB.put (HO.out.step (bbelow_drewN _ _ (m + 1))) (i / 512 * 64 + i % 512 / 8) (Bt.byteSet x (i % 8) true)
    refine ⟨_, rfl, ?_, ?_⟩
    · rw [HV.out]
      have e : i / 512 * 64 + i % 512 / 8 = i / 8 := by omega
      unfold Bt.setBit
      rw [hxe.out]
      have := HQ.1
      rw [e] at this ⊢
      exact this
    · refine (hb.trans (bbelow_drewN _ _ (m + 1))).setCell ?_ _
      exact hg
  | false =>
    have HV : Hid (bits .andNot .u8 (x.toNat : Int) (Bt.pw (i % 8) : Int) = ((Bt.byteSet x (i % 8) false).toNat : Int)) := Lib.hid (by rw [u8_andNot_nat _ _ hx hp, Bt.byteSet_off, Bt.pw_def])
    go_enter Tryz.func85, Tryz.ntmps85
    go_wp2_with (first | (go_at_call 128; refine (clone_any _ _ _ _ _ HR.out hn).mono ?_; rintro e w' ⟨v, rfl, ho, hb⟩; obtain ⟨g, c', rfl, hg, _⟩ := World.ownsRow.form ho HN.out; have hcell := own_byte ho i hi; have hfr := World.ownsRow.frozenAt ho (i / 512 * 64 + i % 512 / 8); rw [hxe.out] at hcell; have HO := Lib.hid ho; clear ho) | (go_at_call 129; refine (bthere_yes _ _ _ _ _ hn hi).mono ?_; rintro e w' ⟨rfl, rfl⟩) | (go_at_call 130; refine (place_any _ _ hi').mono ?_; rintro e w' ⟨rfl, m, rfl⟩))
    go_region
    go_wp2
    go_ret
    have HQ := OwnB.put (HO.out.step (bbelow_drewN _ _ (m + 1))) (i / 512 * 64 + i % 512 / 8) (Bt.byteSet x (i % 8) false)
    refine ⟨_, rfl, ?_, ?_⟩
    · rw [HV.out]
      have e : i / 512 * 64 + i % 512 / 8 = i / 8 := by omega
      unfold Bt.setBit
      rw [hxe.out]
      have := HQ.1
      rw [e] at this ⊢
      exact this
    · refine (hb.trans (bbelow_drewN _ _ (m + 1))).setCell ?_ _
      exact hg
theorem bset_any (i : Int) (on1 : Bool) (A : Option Addr) (n c : Nat) (bs : List UInt8) (w : World) (h : Row w A n bs) (hn : n ≤ 1000) :
    Calls Tryz.prog 85 #[.int .i64 i, .bool on1, .slice A n c] w fun e w' => ∃ v, e = .returned v ∧ OwnB w' w.heap.size v n (Bt.setB bs i on1) ∧ Below w.heap.size w w' := by
  have hl := h.len
  by_cases hi : 0 ≤ i ∧ i < (n : Int) * 512
  · obtain ⟨k, rfl⟩ := Int.eq_ofNat_of_zero_le hi.1
    rw [Bt.setB_nat bs k on1 (by omega)]
    exact bset_yes k on1 A n c bs w h hn (by omega)
  · rw [Bt.setB_no bs i on1 (by omega)]
    exact bset_no i on1 A n c bs w h hn hi
end

section
open Go.RowKit Go.Maps
open Dk (zeros zeros_length)
open Ii (Ino)
theorem set_box (w : World) (x : Ino) : Lo [] w [(w.heap.size, inoL x)] (w.alloc (.cells (inoL x).toArray 47)) :=
  (Lo.start w (by simp)).alloc _ rfl (inoL x) _
theorem sset_step {w : World} {B : Nat} {b : Blk} {s : Sto} {n I : Int} (h : Ctx w B b s n I) (i : Int) (x : Ino) (h1 : 1 ≤ i) (h2 : i ≤ I) : Calls Tryz.prog 39 #[.pointer (some ⟨B, 0, none⟩), .int .i64 i, inoV x] w (Ends B b n I [] w s (Fs.setI i x) fun _ e _ => e = .returned (.tuple #[])) := by
  refine calls_of fun R H => ?_
  have S := Lib.hid (set_box w x)
  obtain ⟨k1, k2⟩ := tbl_ok h.vs h1 h2
  obtain ⟨r1, r2, r3⟩ := h.vs.read k1
  rw [k2] at r1 r3
  have HB : Hid (∀ W l, Lo [] w l W → RowAt W B (stepL b.s n I true 0)) := Lib.hid (fun W l hl => (Lo.ctx (L := []) hl h).step)
  have HP : Hid (∀ w, Calls Tryz.prog 82 #[planV n I, .int .i64 i] w fun e w' => e = .returned (.tuple #[.int .i64 (43 + (i - 1) / 2), .int .i64 ((i - 1) % 2)]) ∧ Below w.heap.size w w') := Lib.hid (fun w => place_yes n I i w h.vs.pl h1 h2)
  have HG : Hid (∀ W l, Lo [] w l W → Calls Tryz.prog 83 #[.pointer (some ⟨B, 0, none⟩), .int .i64 (43 + (i - 1) / 2)] W fun e w' => e = .returned (pageV (nv s (Fs.tbl i))) ∧ Below W.heap.size W w') := Lib.hid (fun W l hl => by
    have := spage_any (Lo.ctx (L := []) hl h) (43 + (i - 1) / 2) k1
    rw [k2] at this
    exact this)
  have HI : Hid (∀ w, Calls Tryz.prog 84 #[pageV (nv s (Fs.tbl i)), .int .i64 ((i - 1) % 2), .agg (inoL x).toArray] w fun e w' => e = .returned (pageV (Ii.putN (nv s (Fs.tbl i)) (Fs.halfAt i) x)) ∧ Below w.heap.size w w') := Lib.hid (fun w => iput_any (nv s (Fs.tbl i)) i x w r3)
  have hql := Ii.putN_length (nv s (Fs.tbl i)) (Fs.halfAt i) x r3 (by unfold Fs.halfAt; omega)
  have HS : Hid (∀ W l, Lo [] w l W → Calls Tryz.prog 66 #[.pointer (some ⟨B, 0, none⟩), .int .i64 (43 + (i - 1) / 2), pageV (Ii.putN (nv s (Fs.tbl i)) (Fs.halfAt i) x)] W (Ends B b n I [] W s (Fs.wr (Fs.tbl i) (Ii.putN (nv s (Fs.tbl i)) (Fs.halfAt i) x)) fun _ e _ => e = .returned (.tuple #[]))) := Lib.hid (fun W l hl => by
    have := sput_step (Lo.ctx (L := []) hl h) (43 + (i - 1) / 2) (Ii.putN (nv s (Fs.tbl i)) (Fs.halfAt i) x) k1 (hql)
    rw [k2] at this
    exact this)
  have HL := Lib.hid r3
  have HQ := Lib.hid hql
  have HC := Lib.hid h
  by_cases c : Ii.putN (nv s (Fs.tbl i)) (Fs.halfAt i) x = nv s (Fs.tbl i)
  · have HE : Hid (∀ W l, Lo [] w l W → R (.returned (.tuple #[])) W) := Lib.hid (fun W l hl => H.out _ _ (by
      have C := Lo.ctx (L := []) hl HC.out
      have e : Fs.setI i x (nv s) = Fs.ret () (nv s) := by unfold Fs.setI; rw [if_pos c]
      exact Or.inl ⟨(), s, [], e, Goes.refl s, C, rfl, hl.only.mono (by simp)⟩))
    rw [c] at HI
    clear h r1 r2 r3 k1 k2 h1 h2 hql HS HC c H
    generalize (43 + (i - 1) / 2 : Int) = at1 at HP HG
    generalize nv s (Fs.tbl i) = p at HG HI HL
    clear HQ
    have E1 : ∀ (w : World), (binOp .neq 97 (pageV p) (pageV p)).run Tryz.prog w = .ok (.bool false) w := fun w => run_neq_same w p HL.out
    have E0 : ∀ (w : World) (x y : Operand), (eqGuard .neq 97 x y (pageV p) (pageV p)).run Tryz.prog w = .ok () w := fun w x y => run_neGuard_page w x y p p
    unfold inoV
    go_enter Tryz.func39, Tryz.ntmps39
    go_wp2_with (first
      | (with_reducible refine wpList_load_plan (HB.out _ _ S.out).plan rfl (.tmp 14) rfl rfl ?_)
      | (go_at_call 82; (with_reducible refine (HP.out _).mono ?_); rintro e w1 ⟨rfl, hb⟩; replace S := Lib.hid (S.out.below hb); clear hb)
      | (go_at_call 83; refine (HG.out _ _ S.out).mono ?_; rintro e w1 ⟨rfl, hb⟩; replace S := Lib.hid (S.out.below hb); clear hb)
      | ((with_reducible refine wpList_store_new rfl (.tmp 8) (.tmp 22) rfl rfl ?_ ?_ HL.out ?_); (exact rfl); (exact rfl); intro W2 hP hB2 hz2; replace S := Lib.hid (S.out.made hP.rowAt hB2 hz2); clear hP hB2 hz2)
      | (with_reducible refine wpList_load_page (S.out.page 1 rfl HL.out) rfl (.tmp 8) rfl rfl ?_)
      | (with_reducible refine wpList_load_rw inoT (S.out.get 0 _ rfl) rfl rfl (.tmp 5) rfl rfl ?_)
      | (go_at_call 84; (with_reducible refine (HI.out _).mono ?_); rintro e w1 ⟨rfl, hb⟩; replace S := Lib.hid (S.out.below hb); clear hb)
      | ((with_reducible refine wpList_store_new rfl (.tmp 9) (.tmp 26) rfl rfl ?_ ?_ HL.out ?_); (exact rfl); (exact rfl); intro W2 hP hB2 hz2; replace S := Lib.hid (S.out.made hP.rowAt hB2 hz2); clear hP hB2 hz2)
      | (with_reducible refine wpList_load_page (S.out.page 2 rfl HL.out) rfl (.tmp 9) rfl rfl ?_))
    go_end0
    exact HE.out _ _ S.out
  · have HE : Hid (∀ W l, Lo [] w l W → Calls Tryz.prog 66 #[.pointer (some ⟨B, 0, none⟩), .int .i64 (43 + (i - 1) / 2), pageV (Ii.putN (nv s (Fs.tbl i)) (Fs.halfAt i) x)] W fun e w' => (e = .panicked [failE B] ∧ R (.panicked [failE B]) w') ∨ (e = .returned (.tuple #[]) ∧ R (.returned (.tuple #[])) w')) := Lib.hid (fun W l hl => (HS.out W l hl).mono fun e w' hE => Ends.unit H (Ends.later (hl.only.mono (by simp)) (Ends.same (by unfold Fs.setI; rw [if_neg c]) hE)))
    clear h r1 r2 r3 k1 k2 h1 h2 hql HS HC H
    generalize (43 + (i - 1) / 2 : Int) = at1 at HP HG HE
    generalize Ii.putN (nv s (Fs.tbl i)) (Fs.halfAt i) x = q at HI HE HQ c
    generalize nv s (Fs.tbl i) = p at HG HI HL c
    have E1 : ∀ (w : World), (binOp .neq 97 (pageV q) (pageV p)).run Tryz.prog w = .ok (.bool true) w := fun w => run_neq_not w q p HQ.out HL.out c
    clear c
    have E0 : ∀ (w : World) (x y : Operand), (eqGuard .neq 97 x y (pageV q) (pageV p)).run Tryz.prog w = .ok () w := fun w x y => run_neGuard_page w x y q p
    unfold inoV
    go_enter Tryz.func39, Tryz.ntmps39
    go_wp2_with (first
      | (with_reducible refine wpList_load_plan (HB.out _ _ S.out).plan rfl (.tmp 14) rfl rfl ?_)
      | (go_at_call 82; (with_reducible refine (HP.out _).mono ?_); rintro e w1 ⟨rfl, hb⟩; replace S := Lib.hid (S.out.below hb); clear hb)
      | (go_at_call 83; refine (HG.out _ _ S.out).mono ?_; rintro e w1 ⟨rfl, hb⟩; replace S := Lib.hid (S.out.below hb); clear hb)
      | ((with_reducible refine wpList_store_new rfl (.tmp 8) (.tmp 22) rfl rfl ?_ ?_ HL.out ?_); (exact rfl); (exact rfl); intro W2 hP hB2 hz2; replace S := Lib.hid (S.out.made hP.rowAt hB2 hz2); clear hP hB2 hz2)
      | (with_reducible refine wpList_load_page (S.out.page 1 rfl HL.out) rfl (.tmp 8) rfl rfl ?_)
      | (with_reducible refine wpList_load_rw inoT (S.out.get 0 _ rfl) rfl rfl (.tmp 5) rfl rfl ?_)
      | (go_at_call 84; (with_reducible refine (HI.out _).mono ?_); rintro e w1 ⟨rfl, hb⟩; replace S := Lib.hid (S.out.below hb); clear hb)
      | ((with_reducible refine wpList_store_new rfl (.tmp 9) (.tmp 26) rfl rfl ?_ ?_ HQ.out ?_); (exact rfl); (exact rfl); intro W2 hP hB2 hz2; replace S := Lib.hid (S.out.made hP.rowAt hB2 hz2); clear hP hB2 hz2)
      | (with_reducible refine wpList_load_page (S.out.page 2 rfl HQ.out) rfl (.tmp 9) rfl rfl ?_)
      | (go_at_call 66; refine (HE.out _ _ S.out).mono ?_; rintro e w1 (⟨rfl, hR⟩ | ⟨rfl, hR⟩); (exact ⟨rfl, hR⟩)))
    go_end0
    exact hR
theorem fold_zip {α : Type} : ∀ (l : List α) (k : Nat) (zs : Array α), k + l.length ≤ zs.size → List.foldl (fun (cs : Array α) x => cs.setIfInBounds x.2 x.1) zs (l.zipIdx k) = (zs.toList.take k ++ l ++ zs.toList.drop (k + l.length)).toArray
  | [], k, zs, _ => by simp
  | x :: l, k, zs, h => by
    rw [List.length_cons] at h
    rw [List.zipIdx_cons, List.foldl_cons, fold_zip l (k + 1) _ (by simp; omega)]
    apply Array.ext'
    have hk : k < zs.toList.length := by simp; omega
    simp only [Array.toList_setIfInBounds]
    have e1 : (zs.toList.set k x).take (k + 1) = zs.toList.take k ++ [x] := by
      rw [List.take_set, List.take_succ_eq_append_getElem hk, List.set_append_right _ _ (by simp; omega)]
      have : k - (List.take k zs.toList).length = 0 := by simp; omega
      rw [this]; rfl
    have e2 : (zs.toList.set k x).drop (k + 1 + l.length) = zs.toList.drop (k + (l.length + 1)) := by
      rw [List.drop_set_of_lt (by omega)]
      congr 1; omega
    rw [e1, e2]
    simp
theorem fold_page {zs : Array Value} {p : List UInt8} (h : zs.size = 64) (hp : p.length = 64) : List.foldl (fun (cs : Array Value) x => cs.setIfInBounds x.2 x.1) zs (byteVals p).zipIdx = (byteVals p).toArray := by
  rw [fold_zip _ 0 _ (by rw [byteVals_length, hp, h]; exact Nat.le_refl _)]
  rw [List.take_zero, List.nil_append, List.drop_of_length_le (by rw [byteVals_length, hp, ← h]; simp), List.append_nil]
theorem row_of_page {W : World} {g : Nat} {p : List UInt8} (h : PageAt W g p) (hg : g < W.heap.size) : Row W (some ⟨g, 0, none⟩) 1 p := by
  refine ⟨h.len, by unfold maxLen; omega, fun q => (by cases q), fun _ => ⟨g, 0, rfl, hg, fun j hj => ?_⟩⟩
  have hj' : j < p.length := by rw [h.len]; exact hj
  have := h.range j (.int .u8 ((p.getD j 0).toNat : Int)) (by rw [byteVals_at p j hj', List.getD_eq_getElem?_getD, List.getElem?_eq_getElem hj']; rfl)
  exact this
theorem row_own {W : World} {base : Nat} {v : Value} {p : List UInt8} (h : OwnB W base v 1 p) : ∃ g c, v = .slice (some ⟨g, 0, none⟩) 1 c ∧ base ≤ g ∧ g < W.heap.size ∧ W.rangeAt g 0 (byteVals p) := by
  obtain ⟨A, cap, rfl, hR, hA, _⟩ := h.form
  obtain ⟨b, off, rfl, hlt, hc⟩ := hR.cells (by decide)
  obtain ⟨h1, rfl⟩ := hA b off rfl
  refine ⟨b, cap, rfl, h1, hlt, fun j v hv => ?_⟩
  have hl := hR.len
  obtain ⟨hj, hv⟩ := List.getElem?_eq_some_iff.1 hv
  rw [byteVals_length] at hj
  have := hc j (by omega)
  rw [this, ← hv]
  have e := byteVals_at p j hj
  rw [List.getElem?_eq_getElem (by rw [byteVals_length]; exact hj)] at e
  injection e with e
  rw [e, List.getD_eq_getElem?_getD, List.getElem?_eq_getElem hj]; rfl
theorem smark_step {w : World} {B : Nat} {b : Blk} {s : Sto} {n I : Int} (h : Ctx w B b s n I) (at1 bit : Int) (on1 : Bool) (ha : okP n at1) : Calls Tryz.prog 40 #[.pointer (some ⟨B, 0, none⟩), .int .i64 at1, .int .i64 bit, .bool on1] w (Ends B b n I [] w s (Fs.markM at1.toNat bit on1) fun _ e _ => e = .returned (.tuple #[])) := by
  refine calls_of fun R H => ?_
  obtain ⟨r1, r2, r3⟩ := h.vs.read ha
  have HL := Lib.hid r3
  have HQ : Hid ((Bt.setB (nv s at1.toNat) bit on1).length = 64) := Lib.hid (by rw [Bt.setB_length]; exact r3)
  have HG : Hid (∀ W l, Lo [] w l W → Calls Tryz.prog 83 #[.pointer (some ⟨B, 0, none⟩), .int .i64 at1] W fun e w' => e = .returned (.agg (byteVals (nv s at1.toNat)).toArray) ∧ Below W.heap.size W w') := Lib.hid (fun W l hl => spage_any (Lo.ctx (L := []) hl h) at1 ha)
  have HE : Hid (∀ W l, Lo [] w l W → Calls Tryz.prog 66 #[.pointer (some ⟨B, 0, none⟩), .int .i64 at1, pageV (Bt.setB (nv s at1.toNat) bit on1)] W fun e w' => (e = .panicked [failE B] ∧ R (.panicked [failE B]) w') ∨ (e = .returned (.tuple #[]) ∧ R (.returned (.tuple #[])) w')) := Lib.hid (fun W l hl => (sput_step (Lo.ctx (L := []) hl h) at1 (Bt.setB (nv s at1.toNat) bit on1) ha HQ.out).mono fun e w' hE => Ends.unit H (Ends.later (hl.only.mono (by simp)) (Ends.same rfl hE)))
  have S := Lib.hid (Lo.start (L := []) w (by simp))
  clear h H r1 r2 r3 ha
  generalize hq : Bt.setB (nv s at1.toNat) bit on1 = q at HE HQ
  generalize nv s at1.toNat = p at HG HL hq
  have HQE := Lib.hid hq
  clear hq
  have hbl : (byteVals p).length = 64 := by rw [byteVals_length]; exact HL.out
  go_enter Tryz.func40, Tryz.ntmps40
  go_wp2_with (first
    | (go_at_call 83; refine (HG.out _ _ S.out).mono ?_; rintro e w1 ⟨rfl, hb⟩; replace S := Lib.hid (S.out.below hb); clear hb))
  rw [fold_page rfl HL.out]
  generalize hw : World.alloc _ _ = w2
  have S2 : Hid (Lo [] w [(w1.heap.size, byteVals p)] w2) := Lib.hid (by rw [← hw]; exact S.out.alloc _ rfl (byteVals p) _)
  have HSZ : Hid (w.heap.size ≤ w2.heap.size) := Lib.hid S2.out.only.size
  clear hw S
  have HBS : Hid (Calls Tryz.prog 85 #[.int .i64 bit, .bool on1, .slice (some ⟨w1.heap.size, 0, none⟩) 1 1] w2 fun e w' => ∃ v, e = .returned v ∧ OwnB w' w2.heap.size v 1 q ∧ Below w2.heap.size w2 w') := Lib.hid (by
    have := bset_any bit on1 (some ⟨w1.heap.size, 0, none⟩) 1 1 p w2 (row_of_page (S2.out.page 0 rfl HL.out) (S2.out.lt 0 _ rfl)) (by omega)
    rw [HQE.out] at this
    exact this)
  go_wp2_with (first
    | (go_at_call 85; (with_reducible refine HBS.out.mono ?_); rintro e w3 ⟨v, rfl, ho, hb⟩; obtain ⟨g, c, rfl, hg1, hg2, hgr⟩ := row_own ho; have S3 := Lib.hid (S2.out.below hb); have HGR := Lib.hid hgr; clear ho hb hgr)
    | (with_reducible refine wpList_load_mid rfl 97 (.tmp 17) rfl g 0 rfl (byteVals q) _ HGR.out Tryz.underlying97 rfl (by rw [page_info, byteVals_length, HQ.out]) ?_)
    | (go_at_call 66; refine (HE.out _ _ S3.out).mono ?_; rintro e w1 (⟨rfl, hR⟩ | ⟨rfl, hR⟩); (exact ⟨rfl, hR⟩)))
  go_end0
  exact hR
end

section
open Dk (zeros zeros_length)
open Go.RowKit
open Ii (Ino)
end

section
open Go.RowKit Go.Maps
open Dk (zeros zeros_length)
open Ii (Ino)
theorem list_part {α : Type} (us : List α) (k m : Nat) (v : α) (hk : k < us.length) : (us.set k v).take (k + 1) = us.take k ++ [v] ∧ (us.set k v).drop (k + 1 + m) = us.drop (k + (m + 1)) := by
  refine ⟨?_, ?_⟩
  · rw [List.take_set, List.take_succ_eq_append_getElem hk, List.set_append_right _ _ (by simp; omega)]
    have : k - (List.take k us).length = 0 := by simp; omega
    rw [this]; rfl
  · rw [List.drop_set_of_lt (by omega)]
    congr 1; omega
theorem RowAt.part {b : Nat} : ∀ (vs : List Value) (w : World) (us : List Value) (k : Nat), RowAt w b us → k + vs.length ≤ us.length → RowAt (w.setCells b k vs) b (us.take k ++ vs ++ us.drop (k + vs.length))
  | [], w, us, k, h, _ => by
    have e : us.take k ++ [] ++ us.drop (k + 0) = us := by simp
    show RowAt w b (us.take k ++ [] ++ us.drop (k + 0))
    rw [e]; exact h
  | v :: vs, w, us, k, h, hk => by
    rw [List.length_cons] at hk
    obtain ⟨e1, e2⟩ := list_part us k vs.length v (by omega)
    have := RowAt.part vs (w.setCell ⟨b, k, none⟩ v) (us.set k v) (k + 1) (h.setOne k v (by omega)) (by rw [List.length_set]; omega)
    rw [e1, e2] at this
    have e : us.take k ++ v :: vs ++ us.drop (k + (v :: vs).length) = us.take k ++ [v] ++ vs ++ us.drop (k + (vs.length + 1)) := by simp
    rw [e]
    exact this
theorem Lo.putAt {L : List Nat} {w0 w : World} {l : List (Nat × List Value)} (h : Lo L w0 l w) (k : Nat) (x : Nat × List Value) (hx : l[k]? = some x) (o : Nat) (vs us : List Value) (ho : o + vs.length ≤ x.2.length) (hu : us = x.2.take o ++ vs ++ x.2.drop (o + vs.length)) : Lo L w0 (l.set k (x.1, us)) (w.setCells x.1 o vs) where
  row := fun y hy => by
    obtain ⟨hk, hke⟩ := List.getElem?_eq_some_iff.1 hx
    obtain ⟨j, hj, rfl⟩ := List.getElem_of_mem hy
    rw [List.length_set] at hj
    rw [List.getElem_set, heap_setCells]
    by_cases e : k = j
    · subst e
      rw [if_pos rfl]
      obtain ⟨h1, h2, h3⟩ := h.row x (List.mem_of_getElem? hx)
      exact ⟨by rw [hu]; exact RowAt.part vs w x.2 o h1 ho, h2, h3⟩
    · rw [if_neg e]
      obtain ⟨h1, h2, h3⟩ := h.row l[j] (List.getElem_mem hj)
      refine ⟨h1.put_other _ _ _ (fun q => ?_), h2, h3⟩
      have hn := List.pairwise_iff_getElem.1 h.ne
      have e1 : (l.map (·.1))[k]'(by simpa using hk) = (l.map (·.1))[j]'(by simpa using hj) := by
        simp only [List.getElem_map]
        rw [hke]; exact q.symm
      rcases Nat.lt_or_ge k j with c | c
      · exact absurd e1 (hn k j _ _ c)
      · exact absurd e1.symm (hn j k _ _ (by omega))
  ne := by
    obtain ⟨hk, hke⟩ := List.getElem?_eq_some_iff.1 hx
    have : (l.set k (x.1, us)).map (·.1) = l.map (·.1) := by
      rw [List.map_set]
      apply List.ext_getElem
      · simp
      · intro j h1 h2
        rw [List.getElem_set]
        split
        · rename_i e; subst e; simp [hke]
        · rfl
    rw [this]; exact h.ne
  only := by
    obtain ⟨h1, h2, h3⟩ := h.row x (List.mem_of_getElem? hx)
    exact h.only.via ((Only.refl [x.1] w).setCells x.1 (by simp) vs o w) (fun i hi => by rw [List.mem_singleton] at hi; subst hi; exact Or.inr h2)
  low := h.low
section
variable {ops : Array Oper} {σ : Type} {S : σ → World → Prop}
end
section
variable {P : Program} {ops : Array Oper} {Q : Exit → Act → World → Prop} {σ : Type} {S : σ → World → Prop} {sp : Nat → Bool} {vals : Nat → Value} {Bp : List PanicEntry → World → Prop}
end
section
variable {ops : Array Oper} {σ : Type} {S : σ → World → Prop}
theorem ord_mid {t : TypeId} {vs : List Value} {o : Oper} {a : Act} {b f : Nat} (hl : ∀ w : World, w.rangeAt b f vs → (loadVar t ⟨b, f, none⟩).run Tryz.prog w = .ok (.agg vs.toArray) w) (hw : Region.wanted o (yielded ops a.tmps) = true) (u : Operand) (ho : o.op = .load t u) (hx : a.eval u = .pointer (some ⟨b, f, none⟩)) (hS : ∀ s w, S s w → w.rangeAt b f vs) :
    OrdAt Tryz.prog ops S o (.agg vs.toArray) a :=
  ord_value hw fun s w hs => by
    unfold execOp
    have := hl w (hS s w hs)
    simp only [ho, hx, Instr.loadAt, Instr.sureAddr, Sem.run_bind, Sem.run_pure, Result.andThen_ok, this]
end
theorem loads_base {B o st : Nat} {n I : Int} (w : World) (h : w.rangeAt B o (baseL st n I)) : (loadVar 70 ⟨B, o, none⟩).run Tryz.prog w = .ok (.agg (baseL st n I).toArray) w :=
  run_loadVar_mid (P := Tryz.prog) w B o 70 (baseL st n I) _ h Tryz.underlying70 rfl (by kernel_rfl)
end

section
open Go.RowKit Go.Maps
open Dk (zeros zeros_length)
open Ii (Ino)
end

section
open Go.RowKit Go.Shelf
attribute [local go_sem] Oper.semAt_some
structure Those (w : World) (s : Nat) (on1 : Bool) (a b : Int) (v : Value) : Prop where
  on1 : Boxed w s 4 (.bool on1)
  lo : Boxed w (s + 1) 3 (.int .i64 a)
  hi : Boxed w (s + 2) 3 (.int .i64 b)
  l : Boxed w (s + 3) 86 v
def thoseV (s : Nat) : Value := .func (.func 191) #[] #[.pointer (some ⟨s + 1, 0, none⟩), .pointer (some ⟨s + 2, 0, none⟩), .pointer (some ⟨s + 3, 0, none⟩), .pointer (some ⟨s, 0, none⟩)]
theorem those_any (on1 : Bool) (a b : Int) (A : Option Addr) (n c : Nat) (w : World) (hn : n ≤ 1000) :
    Calls Tryz.prog 173 #[.bool on1, .int .i64 a, .int .i64 b, .slice A n c] w fun e w' => e = .returned (thoseV w.heap.size) ∧ Those w' w.heap.size on1 (max a 0) (min b ((n : Int) * 512)) (.slice A n c) ∧ Below w.heap.size w w' ∧ w'.heap.size = w.heap.size + 4 := by
  go_enter Tryz.func173, Tryz.ntmps173
  go_wp2
  go_region
  have e1 : (if a < 0 then 0 else a) = max a 0 := by split <;> omega
  have e2 : (if (n : Int) * 512 < b then (n : Int) * 512 else b) = min b ((n : Int) * 512) := by split <;> omega
  try rw [e1, e2]
  clear e1 e2
  obtain ⟨A0, hA0⟩ : ∃ x, max a 0 = x := ⟨_, rfl⟩
  obtain ⟨B0, hB0⟩ : ∃ x, min b ((n : Int) * 512) = x := ⟨_, rfl⟩
  rw [hA0, hB0]
  have HA0 := Lib.hid hA0; clear hA0
  have HB0 := Lib.hid hB0; clear hB0
  go_wp2
  go_ret
  rw [HA0.out, HB0.out]
  refine ⟨rfl, ⟨?_, ?_, ?_, ?_⟩, ?_, ?_⟩
  · exact (((Boxed.new w _ _).alloc _).alloc _).alloc _
  · have := ((Boxed.new (w.alloc (.cells #[.bool on1] 4)) 3 (.int .i64 (A0))).alloc (.cells #[.int .i64 B0] 3)).alloc (.cells #[.slice A n c] 86)
    rw [World.size_alloc] at this
    exact this
  · have := (Boxed.new ((w.alloc (.cells #[.bool on1] 4)).alloc (.cells #[.int .i64 (A0)] 3)) 3 (.int .i64 B0)).alloc (.cells #[.slice A n c] 86)
    rw [World.size_alloc, World.size_alloc] at this
    exact this
  · have := Boxed.new (((w.alloc (.cells #[.bool on1] 4)).alloc (.cells #[.int .i64 (A0)] 3)).alloc (.cells #[.int .i64 B0] 3)) 86 (.slice A n c)
    rw [World.size_alloc, World.size_alloc, World.size_alloc] at this
    exact this
  · exact (((((Below.refl _ w).alloc (Nat.le_refl _) _).alloc (by simp) _).alloc (by simp; omega) _).alloc (by simp; omega) _).trans (bbelow_drewN _ _ 1)
  · simp
structure KeepsT (s : Nat) (A : Option Addr) (n : Nat) (W W' : World) : Prop where
  size : W.heap.size ≤ W'.heap.size
  vars : ∀ k, s ≤ k → k < s + 4 → W'.heap[k]? = W.heap[k]?
  pages : 0 < n → ∀ b off, A = some ⟨b, off, none⟩ → W'.heap[b]? = W.heap[b]?
theorem KeepsT.refl (s : Nat) (A : Option Addr) (n : Nat) (W : World) : KeepsT s A n W W := ⟨Nat.le_refl _, fun _ _ _ => rfl, fun _ _ _ _ => rfl⟩
theorem KeepsT.trans {s : Nat} {A : Option Addr} {n : Nat} {X Y Z : World} (h : KeepsT s A n X Y) (k : KeepsT s A n Y Z) : KeepsT s A n X Z :=
  ⟨Nat.le_trans h.size k.size, fun i h1 h2 => (k.vars i h1 h2).trans (h.vars i h1 h2), fun h0 b off e => (k.pages h0 b off e).trans (h.pages h0 b off e)⟩
theorem KeepsT.drewN (s : Nat) (A : Option Addr) (n : Nat) (W : World) (m : Nat) : KeepsT s A n W (W.drewN m) := ⟨Nat.le_refl _, fun _ _ _ => rfl, fun _ _ _ _ => rfl⟩
theorem KeepsT.putObj {s B : Nat} {A : Option Addr} {n : Nat} (hB : s + 4 ≤ B) (hA : 0 < n → ∀ b off, A = some ⟨b, off, none⟩ → b < B) (W : World) (l : Nat) (o o' : Obj) (hl : B ≤ l) (_ : W.heap[l]? = some o) (_ : o.isCells = false) (_ : o.isWalk = false) : KeepsT s A n W (W.putObj l o') :=
  ⟨by simp, fun k _ h2 => World.putObj_heap_other (by omega), fun h0 b off e => World.putObj_heap_other (by have := hA h0 b off e; omega)⟩
theorem Those.keep {W W' : World} {s : Nat} {A : Option Addr} {n : Nat} {on1 : Bool} {a b : Int} {v : Value} (h : Those W s on1 a b v) (k : KeepsT s A n W W') : Those W' s on1 a b v where
  on1 := (k.vars s (Nat.le_refl _) (by omega)).trans h.on1
  lo := (k.vars (s + 1) (by omega) (by omega)).trans h.lo
  hi := (k.vars (s + 2) (by omega) (by omega)).trans h.hi
  l := (k.vars (s + 3) (by omega) (by omega)).trans h.l
theorem Row.keepT {W W' : World} {s : Nat} {A : Option Addr} {n : Nat} {bs : List UInt8} (h : Row W A n bs) (k : KeepsT s A n W W') : Row W' A n bs :=
  h.keep k.size fun h0 b off e _ => k.pages h0 b off e
theorem AbidesFrom.drewN {β : Type} {B : Nat} {J : β → World → Prop} (h : AbidesFrom B J) {x : β} {W : World} (hj : J x W) (m : Nat) : J x (W.drewN m) :=
  h x W (W.drewN m) none hj ⟨rfl, rfl, rfl, Nat.le_refl _, fun _ _ _ => rfl⟩ (fun r e => by cases e)
end

section
open Go.RowKit Go.Shelf
attribute [local go_sem] Oper.semAt_some
theorem those1_in (m : Nat) (hm : 2 ≤ m) (l s : Nat) (on1 : Bool) (a b : Int) (A : Option Addr) (n c : Nat) (bs : List UInt8) (hn : n ≤ 1000) (J Jx : List Nat → World → Prop) (W : World)
    (hJ : AbidesFrom W.heap.size J)
    (hY : ∀ pre (x : Nat) W1, J pre W1 → pre.length < 512 * n → YieldAt Fence.wide (m - 1) Tryz.prog l #[.int .i64 (x : Int)] W1 fun e W' =>
      (e = .returned (.bool true) ∧ J (pre ++ [x]) W' ∧ KeepsT s A n W1 W') ∨ (e = .returned (.bool false) ∧ Jx (pre ++ [x]) W'))
    (hR : Row W A n bs) (hT : Those W s on1 (max a 0) (min b ((n : Int) * 512)) (.slice A n c)) (h0 : J [] W) :
    CallsIn Fence.wide m Tryz.prog 191 #[.func (.yield l) #[] #[], .pointer (some ⟨s + 1, 0, none⟩), .pointer (some ⟨s + 2, 0, none⟩), .pointer (some ⟨s + 3, 0, none⟩), .pointer (some ⟨s, 0, none⟩)] W fun e W' => (∃ v, e = .returned v) ∧
      ((∃ ys, ys = Bt.all bs on1 a b ∧ J ys W') ∨ (∃ pre, pre <+: Bt.all bs on1 a b ∧ Jx pre W')) := by
  have h1 : 1 ≤ m := by omega
  have HR := Lib.hid hR; clear hR
  have HT := Lib.hid hT; clear hT
  obtain ⟨A0, hA0⟩ : ∃ x, max a 0 = x := ⟨_, rfl⟩
  obtain ⟨B0, hB0⟩ : ∃ x, min b ((n : Int) * 512) = x := ⟨_, rfl⟩
  obtain ⟨L, hL⟩ : ∃ x, Bt.lo a = x := ⟨_, rfl⟩
  have HL : Hid (A0 = (L : Int)) := Lib.hid (by rw [← hL, ← hA0]; unfold Bt.lo; omega)
  have HH : Hid (Bt.hi bs b = B0) := Lib.hid (by rw [← hB0]; unfold Bt.hi; rw [HR.out.len]; congr 1; omega)
  have HBS := Lib.hid HR.out.len
  have HL' := Lib.hid hL; clear hL
  rw [hA0, hB0, HL.out] at HT
  clear hA0 HL
  have hlo := HT.out.lo.cell
  have hB1 : B0 ≤ 512000 := by omega
  clear hB0
  refine callsIn_of_wp Tryz.func191 rfl trivial ?_ rfl
  simp only [Tryz.ntmps191, List.size_toArray, List.length_cons, List.length_nil, Nat.reduceAdd, Nat.reduceSub, Array.replicate_succ, Array.replicate_zero, List.push_toArray, List.append_toArray, List.nil_append, List.cons_append]
  gi_wp2
  gi_loopw [6] (fun p wr => ∃ k : Nat, p = .int .i64 (k : Int) ∧ L ≤ k ∧ (k ≤ 512 * n ∨ k = L) ∧ J (Bt.upto bs on1 a b k) wr ∧ KeepsT s A n W wr)
    (fun p _ => (B0 - intOf p).toNat)
  case atStart => exact ⟨L, rfl, Nat.le_refl _, .inr rfl, by rw [← HL'.out, Bt.upto_start]; exact h0, KeepsT.refl _ _ _ _⟩
  case round =>
    obtain ⟨k, rfl, hk1, hk2, hJs, hkt⟩ := hrel
    have HT2 := Lib.hid (HT.out.keep hkt)
    have HR2 := Lib.hid (HR.out.keepT hkt)
    have hhi := HT2.out.hi.cell
    have hl := HT2.out.l.cell
    have hon := HT2.out.on1.cell
    by_cases hlt : (k : Int) < B0
    · have HQ : Hid (Bt.among bs on1 a b k = (Bt.bit bs k == on1)) := Lib.hid (Bt.upto_step _ _ _ _ _ (by rw [HL'.out]; exact hk1) (by rw [HH.out]; exact hlt))
      have HG : Hid (Bt.getB bs (k : Int) = Bt.bit bs k) := Lib.hid (Bt.getB_nat bs k)
      have HK : Hid (k + 1 ≤ 512 * n) := Lib.hid (by
        have := HH.out; unfold Bt.hi at this; rw [HBS.out] at this; omega)
      have HGET : Hid (∀ j, Calls Tryz.prog 192 #[.int .i64 (k : Int), .slice A n c] (wr.drewN j) fun e w' => e = .returned (.bool (Bt.bit bs k)) ∧ ∃ i, w' = (wr.drewN j).drewN i) := Lib.hid fun j => HG.out ▸ bget_any _ _ _ _ _ _ (HR2.out.drewN j) hn
      cases hbo : Bt.bit bs k == on1 with
      | false =>
        gi_wp2
        refine wpIn_wide.2 ?_
        go_quiet ((go_at_call 192; refine Calls.quiet_of (HGET.out _)))
        gi_wp2
        go_roundw
        case rel => exact ⟨k + 1, by go_num, by omega, .inl HK.out, by rw [Bt.upto_no _ _ _ _ _ (HQ.out.trans hbo)]; exact AbidesFrom.drewN hJ hJs _, hkt.trans (KeepsT.drewN _ _ _ _ _)⟩
        case measure => simp [intOf]; omega
      | true =>
        have hlen : (Bt.upto bs on1 a b k).length < 512 * n := Nat.lt_of_le_of_lt (Bt.upto_length _ _ _ _ _) (by have := HK.out; omega)
        gi_wp2
        gi_region_with (first
          | (refine ⟨trivial, ?_⟩; gi_at_call 192; refine (callsIn_wide.2 (HGET.out 1)).mono ?_; rintro e w' ⟨rfl, i, rfl⟩; obtain ⟨fn, tmps, assign, body, hy, hR⟩ := hY _ k (wr.drewN (1 + i)) (AbidesFrom.drewN hJ hJs (1 + i)) hlen; have hR := hR.mono (R' := fun e W' => ∃ r : Bool, e = .returned (.bool r) ∧ ((r = true ∧ J (Bt.upto bs on1 a b k ++ [k]) W' ∧ KeepsT s A n wr W') ∨ (r = false ∧ Jx (Bt.upto bs on1 a b k ++ [k]) W'))) (fun e W' h => h.elim (fun h => ⟨true, h.1, .inl ⟨rfl, h.2.1, ⟨h.2.2.size, h.2.2.vars, h.2.2.pages⟩⟩⟩) (fun h => ⟨false, h.1, .inr ⟨rfl, h.2⟩⟩)))
          | (refine hR.mono ?_; rintro e W3 ⟨r, rfl, h3⟩; clear hR hy))
        all_goals
          have HY : Hid (Bt.upto bs on1 a b (k + 1) = Bt.upto bs on1 a b k ++ [k]) := Lib.hid (Bt.upto_yes _ _ _ _ _ (HQ.out.trans hbo))
          rcases h3 with ⟨rfl, hJ3, hk3⟩ | ⟨rfl, hJx3⟩
          · gi_wp2
            go_roundw
            case rel => exact ⟨k + 1, by go_num, by omega, .inl HK.out, by rw [HY.out]; exact hJ3, hkt.trans hk3⟩
            case measure => simp [intOf]; omega
          · gi_wp2
            refine bodyPost_ret (results_none rfl _ _ _) rfl ?_
            exact ⟨⟨_, rfl⟩, .inr ⟨_, by rw [← HY.out]; exact Bt.upto_pre _ _ _ _ _ (by rw [HBS.out]; have := HK.out; omega), hJx3⟩⟩
    · have HE : Hid (Bt.upto bs on1 a b k = Bt.all bs on1 a b) := Lib.hid (Bt.upto_end _ _ _ _ _ (by rw [HL'.out]; exact hk1) (by rw [HH.out]; omega) (by rw [HBS.out, HL'.out]; omega))
      gi_wp2
      go_end0
      exact ⟨⟨_, rfl⟩, .inl (by rw [← HE.out]; exact hJs)⟩
theorem those_stops (m : Nat) (hm : 2 ≤ m) (s : Nat) (on1 : Bool) (a b : Int) (A : Option Addr) (n c : Nat) (bs : List UInt8) (hn : n ≤ 1000) (w : World) (hs : s + 4 ≤ w.heap.size)
    (hR : Row w A n bs) (hT : Those w s on1 (max a 0) (min b ((n : Int) * 512)) (.slice A n c)) :
    SeqStopsK Fence.wide m Tryz.prog 191 #[.pointer (some ⟨s + 1, 0, none⟩), .pointer (some ⟨s + 2, 0, none⟩), .pointer (some ⟨s + 3, 0, none⟩), .pointer (some ⟨s, 0, none⟩)] (fun x : Nat => #[Value.int .i64 (x : Int)]) (KeepsT s A n)
      (fun ys => ys = Bt.all bs on1 a b) (fun pre => pre <+: Bt.all bs on1 a b) (512 * n) w := fun l J Jx W hW hJ _ hY h0 => by
  refine those1_in m hm l s on1 a b A n c bs hn J Jx W hJ hY (hR.step hW) ?_ h0
  exact ⟨(hW.block s (by omega)).trans hT.on1, (hW.block (s + 1) (by omega)).trans hT.lo, (hW.block (s + 2) (by omega)).trans hT.hi, (hW.block (s + 3) (by omega)).trans hT.l⟩
end

section
open Go.RowKit Go.Shelf
attribute [local go_sem] Oper.semAt_some
theorem Row.lt {w : World} {A : Option Addr} {n : Nat} {bs : List UInt8} (h : Row w A n bs) : 0 < n → ∀ b off, A = some ⟨b, off, none⟩ → b < w.heap.size := fun h0 b off e => by
  obtain ⟨b', off', e', hlt, _⟩ := h.cells h0
  rw [e] at e'
  injection e' with e'; injection e' with e1 e2
  omega
theorem first_in (a b : Int) (A : Option Addr) (n c : Nat) (bs : List UInt8) (w : World) (hR : Row w A n bs) (hn : n ≤ 1000) :
    CallsIn Fence.wide 5 Tryz.prog 152 #[.int .i64 a, .int .i64 b, .slice A n c] w fun e W' => e = .returned (.int .i64 (Bt.first bs a b)) ∧ Below w.heap.size w W' := by
  have HR := Lib.hid hR; clear hR
  refine callsIn_of_wp_marks Tryz.func152 rfl trivial ?_ rfl
  simp only [Tryz.ntmps152, List.size_toArray, List.length_cons, List.length_nil, Nat.reduceAdd, Nat.reduceSub, Array.replicate_succ, Array.replicate_zero, List.push_toArray, List.append_toArray, List.nil_append, List.cons_append]
  gi_wp2_with (refine ⟨trivial, ?_⟩; gi_at_call 173; refine (callsIn_wide.2 (those_any _ _ _ _ _ _ _ hn)).mono ?_; rintro e w1 ⟨rfl, hT, hB, hsz⟩)
  simp only [World.size_alloc] at hT hB hsz
  have bN : Boxed w1 w.heap.size 3 (.int .i64 0) := (hB.block w.heap.size (by omega)).trans (Boxed.new w 3 (.int .i64 0))
  have hB0 : Below w.heap.size w w1 := ((Below.refl _ w).alloc (Nat.le_refl _) _).trans (hB.mono (by omega))
  have hlt := HR.out.lt
  refine wpIn_rangeFunc_ownG rfl (by omega) (gf := 191) (lb := #[.pointer (some ⟨w.heap.size + 1 + 1, 0, none⟩), .pointer (some ⟨w.heap.size + 1 + 2, 0, none⟩), .pointer (some ⟨w.heap.size + 1 + 3, 0, none⟩), .pointer (some ⟨w.heap.size + 1, 0, none⟩)]) rfl trivial (enters_of Tryz.func191 (by kernel_rfl) rfl)
    (those_stops (5 - 1) (by omega) (w.heap.size + 1) false a b A n c bs hn w1 (by omega) (HR.out.step hB0) hT) KeepsT.trans (KeepsT.putObj (by omega) (fun h0 b off e => by have := hlt h0 b off e; omega)) (Below.refl _ _) (fun _ => rfl)
    (fun pre W => (pre = [] ∧ Boxed W w.heap.size 3 (.int .i64 0)) ∧ Below w.heap.size w W)
    (fun c pre W => (c = .ret ∧ ∃ x : Nat, pre = [x] ∧ Boxed W w.heap.size 3 (.int .i64 (x : Int))) ∧ Below w.heap.size w W)
    (OwnFrom.and (Own.from (fun s X Y row hs hg hr => ⟨hs.1, boxed_own w.heap.size 3 (fun _ : Unit => .int .i64 0) () X Y row hs.2 hg hr⟩) _) (ownFrom_below (Nat.le_refl _) (by omega)))
    (fun c => OwnFrom.and (Own.from (fun s X Y row hs hg hr => by
      obtain ⟨h1, x, h2, h3⟩ := hs
      exact ⟨h1, x, h2, boxed_own w.heap.size 3 (fun _ : Unit => .int .i64 (x : Int)) () X Y row h3 hg hr⟩) _) (ownFrom_below (Nat.le_refl _) (by omega)))
    ⟨⟨rfl, bN⟩, hB0⟩
    (fun x => { tmps := #[.int .i64 a, .int .i64 b, .slice A n c, undef, undef, undef, .pointer (some ⟨w.heap.size, 0, none⟩), .int .i64 (x : Int), .int .i64 a, .int .i64 b, .slice A n c, thoseV (w.heap.size + 1), .int .i64 (x : Int), undef], defers := [] }) ?assign ?body ?done ?stop
  case assign =>
    intro l x W K hK
    gi_wp2
    exact hK
  case body =>
    rintro l pre x W ⟨⟨rfl, hb⟩, hB⟩ hlen
    have hc := hb.cell
    have hf := hb.frozen
    gi_wp2
    exact ⟨(KeepsOthers.setCell _ _ _).from _, ⟨rfl, x, rfl, hb.set _⟩, hB.setCell (p := ⟨w.heap.size, 0, none⟩) (Nat.le_refl _) _⟩
  case done =>
    rintro D ys W hD hys ⟨⟨hy0, hb⟩, hB⟩ hK
    have hc := hb.cell
    have hf := hb.frozen
    have HF : Hid (Bt.first bs a b = -1) := Lib.hid (Bt.first_none _ _ _ (hys.symm.trans hy0))
    clear hys hy0
    gi_wp2
    have hK' := (KeepsOthers.setCell W ⟨w.heap.size, 0, none⟩ (.int .i64 (-1))).same D _ hK rfl
    refine ⟨by simp, .inl ⟨_, _, rfl, run_takeDeferred hK', ?_⟩⟩
    have hc5 := cell_kept (hb.set (.int .i64 (-1))).cell (grownBy_putObj' _ D (.deferred none)) (fun r e => by cases e; exact ⟨_, hK', rfl⟩)
    refine ⟨.int .i64 (-1), ?_, by rw [HF.out], (hB.setCell (p := ⟨w.heap.size, 0, none⟩) (Nat.le_refl _) _).trans (belowK_b (w := w) (Nat.le_refl _) _ D _ _ (by omega) hK' rfl rfl)⟩
    simp [results, Tryz.f152, go_sem, hc5]
  case stop =>
    rintro D c pre W hD hpre ⟨⟨rfl, x, rfl, hb⟩, hB⟩ hK
    have HF := Lib.hid (Bt.first_some _ _ _ _ hpre)
    clear hpre
    gi_wp2
    refine ⟨by simp, .inl ⟨_, _, rfl, run_takeDeferred hK, ?_⟩⟩
    have hc5 := cell_kept hb.cell (grownBy_putObj' _ D (.deferred none)) (fun r e => by cases e; exact ⟨_, hK, rfl⟩)
    refine ⟨.int .i64 (x : Int), ?_, by rw [HF.out], hB.trans (belowK_b (w := w) (Nat.le_refl _) _ D _ _ (by omega) hK rfl rfl)⟩
    simp [results, Tryz.f152, go_sem, hc5]
theorem first_any (a b : Int) (A : Option Addr) (n c : Nat) (bs : List UInt8) (w : World) (hR : Row w A n bs) (hn : n ≤ 1000) :
    Calls Tryz.prog 152 #[.int .i64 a, .int .i64 b, .slice A n c] w fun e W' => e = .returned (.int .i64 (Bt.first bs a b)) ∧ Below w.heap.size w W' :=
  callsIn_wide.1 (first_in a b A n c bs w hR hn)
end

section
open Go.RowKit Go.Maps
open Dk (zeros zeros_length)
open Ii (Ino)
theorem isData_ok {s : Sto} {n I m : Int} (h : Vs s n I) (hm : Fs.isData n I m) : okP n m := by
  obtain ⟨b1, b2, b3, b4, b5, b6⟩ := h.bd
  unfold Fs.isData at hm
  exact ⟨by omega, by omega, by omega⟩
theorem Bt.first_bd (bs : List UInt8) (a b : Int) : Bt.first bs a b = -1 ∨ (0 ≤ Bt.first bs a b ∧ a ≤ Bt.first bs a b ∧ Bt.first bs a b < b) := by
  unfold Bt.first
  cases h : Bt.all bs false a b with
  | nil => exact Or.inl rfl
  | cons i l =>
    right
    have hi : i ∈ Bt.all bs false a b := by rw [h]; exact List.mem_cons_self ..
    unfold Bt.all Bt.upto at hi
    have := (List.mem_filter.1 hi).2
    unfold Bt.among at this
    simp only [Bool.and_eq_true, decide_eq_true_eq] at this
    refine ⟨Int.natCast_nonneg i, this.1.1, this.1.2⟩
theorem bits_ok {s : Sto} {n I : Int} (h : Vs s n I) : okP n 42 ∧ okP n 41 := by
  obtain ⟨b1, b2, b3, b4, b5, b6⟩ := h.bd
  exact ⟨⟨by omega, by omega, by omega⟩, ⟨by omega, by omega, by omega⟩⟩
theorem stake_step {w : World} {B : Nat} {b : Blk} {s : Sto} {n I : Int} (h : Ctx w B b s n I) : Calls Tryz.prog 112 #[.pointer (some ⟨B, 0, none⟩)] w (Ends B b n I [] w s (Fs.takeM n I) fun m e _ => e = .returned (.int .i64 m)) := by
  refine calls_of fun R H => ?_
  have r3 : (nv s 42).length = 64 := (h.vs.read (bits_ok h.vs).1).2.2
  have S := Lib.hid (Stp.start h (by simp) H)
  replace S := Lib.hid (Stp.saw S.out)
  have HDB : Hid (∀ w, Calls Tryz.prog 151 #[planV n I] w fun e w' => e = .returned (.int .i64 42) ∧ Below w.heap.size w w') := Lib.hid (fun w => by
    have := plDataBits_any n I w
    rw [if_pos h.vs.pl] at this
    exact this)
  have HRM := Lib.hid (fun w => plRoom_yes n I w h.vs.pl)
  have HL := Lib.hid r3
  have HOK := Lib.hid (bits_ok h.vs).1
  have hbl : (byteVals (nv s 42)).length = 64 := by rw [byteVals_length]; exact r3
  have HG : Hid (∀ W, Ctx W B b s n I → Calls Tryz.prog 83 #[.pointer (some ⟨B, 0, none⟩), .int .i64 42] W fun e w' => e = .returned (.agg (byteVals (nv s 42)).toArray) ∧ Below W.heap.size W w') := Lib.hid (fun W hc => spage_any hc 42 HOK.out)
  have HAT := Lib.hid (fun (k : Int) (h1 : 0 ≤ k) (h2 : k < n - Pl.dataN I) w => at_yes n I k w h.vs.pl h1 h2)
  have HPK := Lib.hid (fun (k : Int) (h1 : 0 ≤ k) (h2 : k < n - Pl.dataN I) => isData_ok (m := Pl.dataN I + k) h.vs (by unfold Fs.isData; omega))
  have hfb := Bt.first_bd (nv s 42) 0 (n - Pl.dataN I)
  have HFI : Hid (∀ W c g, Row W (some ⟨g, 0, none⟩) 1 (nv s 42) → Calls Tryz.prog 152 #[.int .i64 0, .int .i64 (n - Pl.dataN I), .slice (some ⟨g, 0, none⟩) 1 c] W fun e W' => e = .returned (.int .i64 (Bt.first (nv s 42) 0 (n - Pl.dataN I))) ∧ Below W.heap.size W W') := Lib.hid (fun W c g hr => first_any 0 _ _ 1 c (nv s 42) W hr (by omega))
  clear h H r3
  generalize nv s 42 = p at HL hbl HG hfb HFI S
  generalize Bt.first p 0 (n - Pl.dataN I) = k at hfb HFI S
  by_cases hk : k < 0
  · rw [if_pos hk] at S
    have gk : (decide (k < 0)) = true := decide_eq_true hk
    have HF : Hid (∀ W l, Lo [b.t] w l W → Ctx W B b s n I → Calls Tryz.prog 46 #[.pointer (some ⟨B, 0, none⟩), .int .i64 28] W fun e w' => e = .panicked [failE B] ∧ Broke w' B b s n I 28 ∧ Only [B] W w') := Lib.hid (fun W l _ hc => fail_any hc 28 (by decide))
    clear hfb hk HAT HPK
    go_enter Tryz.func112, Tryz.ntmps112
    go_wp2_with (first
      | (with_reducible refine wpList_load_plan (S.out.row).plan rfl (.tmp 9) rfl rfl ?_)
      | (with_reducible refine wpList_load_plan (S.out.row).plan rfl (.tmp 15) rfl rfl ?_)
      | (go_at_call 151; (with_reducible refine (HDB.out _).mono ?_); rintro e w1 ⟨rfl, hb⟩; replace S := Lib.hid (S.out.below hb); clear hb)
      | (go_at_call 123; (with_reducible refine (HRM.out _).mono ?_); rintro e w1 ⟨rfl, hb⟩; replace S := Lib.hid (S.out.below hb); clear hb)
      | (go_at_call 83; refine (HG.out _ S.out.ctx).mono ?_; rintro e w1 ⟨rfl, hb⟩; replace S := Lib.hid (S.out.below hb); clear hb))
    rw [fold_page rfl HL.out]
    generalize hw : World.alloc _ _ = w2
    replace S : Hid (Stp R B b n I [] w (fun m e _ => e = .returned (.int .i64 m)) [(w1.heap.size, byteVals p)] s (Fs.fail 28) w2) := Lib.hid (by rw [← hw]; exact S.out.alloc _ rfl (byteVals p) _)
    clear hw
    replace HFI := Lib.hid (HFI.out w2 1 w1.heap.size (row_of_page ((S.out.lo).page 0 rfl HL.out) (S.out.lo.lt 0 _ rfl)))
    go_wp2_with (first
      | (go_at_call 152; (with_reducible refine HFI.out.mono ?_); rintro e w3 ⟨rfl, hb⟩; replace S := Lib.hid (S.out.below hb); clear hb HFI)
      | (go_at_call 46; refine (HF.out _ _ S.out.lo S.out.ctx).mono ?_; rintro e w4 ⟨rfl, hB, hO⟩))
    exact ⟨rfl, S.out.fails (Fails.err rfl) (by decide) hB hO⟩
  · rw [if_neg hk] at S
    have gk : (decide (k < 0)) = false := decide_eq_false hk
    obtain ⟨hk1, _, hk2⟩ := hfb.resolve_left (by omega)
    replace HAT := Lib.hid (HAT.out k hk1 hk2)
    replace HPK := Lib.hid (HPK.out k hk1 hk2)
    clear hfb hk hk1 hk2
    generalize Pl.dataN I + k = m at HAT HPK S
    have c2 : w.cell? ⟨B, 0, none⟩ = some (.pointer (some ⟨b.s, 0, none⟩)) := S.out.cell0
    go_enter Tryz.func112, Tryz.ntmps112
    go_wp2_with (first
      | (with_reducible refine wpList_load_plan (S.out.row).plan rfl (.tmp 9) rfl rfl ?_)
      | (with_reducible refine wpList_load_plan (S.out.row).plan rfl (.tmp 15) rfl rfl ?_)
      | (with_reducible refine wpList_load_plan (S.out.row).plan rfl (.tmp 34) rfl rfl ?_)
      | (go_at_call 151; (with_reducible refine (HDB.out _).mono ?_); rintro e w1 ⟨rfl, hb⟩; replace S := Lib.hid (S.out.below hb); clear hb)
      | (go_at_call 123; (with_reducible refine (HRM.out _).mono ?_); rintro e w1 ⟨rfl, hb⟩; replace S := Lib.hid (S.out.below hb); clear hb)
      | (go_at_call 83; refine (HG.out _ S.out.ctx).mono ?_; rintro e w1 ⟨rfl, hb⟩; replace S := Lib.hid (S.out.below hb); clear hb))
    rw [fold_page rfl HL.out]
    generalize hw : World.alloc _ _ = w2
    replace S : Hid (Stp R B b n I [] w (fun m e _ => e = .returned (.int .i64 m)) [(w1.heap.size, byteVals p)] s (Fs.andThen (Fs.markM 42 k true) fun _ => Fs.andThen (Fs.wr m.toNat zeros) fun _ => Fs.ret m) w2) := Lib.hid (by rw [← hw]; exact S.out.alloc _ rfl (byteVals p) _)
    clear hw
    replace HFI := Lib.hid (HFI.out w2 1 w1.heap.size (row_of_page ((S.out.lo).page 0 rfl HL.out) (S.out.lo.lt 0 _ rfl)))
    go_wp2_with (first
      | (with_reducible refine wpList_load_plan (S.out.row).plan rfl (.tmp 34) rfl rfl ?_)
      | (go_at_call 152; (with_reducible refine HFI.out.mono ?_); rintro e w3 ⟨rfl, hb⟩; replace S := Lib.hid (S.out.below hb); clear hb HFI)
      | (go_at_call 40; refine (smark_step S.out.ctx 42 k true HOK.out).mono ?_; intro e w4 hE; rcases S.out.bind hE with ⟨rfl, hR⟩ | ⟨_, s2, L2, _, rfl, S2⟩; (exact ⟨rfl, hR⟩); clear S hE; have S := Lib.hid S2; clear S2)
      | (go_at_call 153; (with_reducible refine (HAT.out _).mono ?_); rintro e w1 ⟨rfl, hb⟩; replace S := Lib.hid (S.out.below hb); clear hb))
    rw [← zeroCells_def, show Value.agg zeroCells = pageV zeros from rfl]
    refine (sput_step S.out.ctx m zeros HPK.out zeros_length).mono ?_
    intro e w5 hE
    rcases S.out.bind hE with ⟨rfl, hR⟩ | ⟨_, s3, L3, _, rfl, S2⟩
    · exact ⟨rfl, hR⟩
    clear S hE
    have S := Lib.hid S2
    clear S2
    go_wp2_with fail
    exact S.out.done rfl
end
end Go.Proofs.YtmpfcgjjejlhdaaGreat
