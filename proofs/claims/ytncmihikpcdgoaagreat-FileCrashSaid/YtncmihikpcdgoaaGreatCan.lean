/- Texts of the proof. -/
import Derived.Test.YtncmihikpcdgoaaGreatCam
import Derived.Test.YtncmihikpcdgoaaGreatCai
import Derived.Test.YtncmihikpcdgoaaGreatCac
import Derived.Lib.SliceRun
set_option maxRecDepth 100000
set_option maxHeartbeats 16000000
namespace Go.Proofs.YtncmihikpcdgoaaGreat
section
open Go.RowKit Go.Maps
open Dk (zeros zeros_length)
open Ii (Ino)
def MarkS {α : Type} (R : Ending → World → Prop) (B : Nat) (b : Blk) (n I : Int) (w0 : World) (K : α → Ending → World → Prop) (s : Sto) (m1 : Fs.M Unit) (f : Unit → Fs.M α) (k : Bool) (W : World) : Prop :=
  if k = true then ∃ s', Stp R B b n I [] w0 K [] s' (f ()) W else Stp R B b n I [] w0 K [] s (Fs.andThen m1 f) W
theorem MarkS.row {α : Type} {R : Ending → World → Prop} {B : Nat} {b : Blk} {n I : Int} {w0 : World} {K : α → Ending → World → Prop} {s : Sto} {m1 : Fs.M Unit} {f : Unit → Fs.M α} {k : Bool} {W : World} (h : MarkS R B b n I w0 K s m1 f k W) : W.rangeAt B 1 (planL n I) := by
  cases k with
  | true => obtain ⟨s', h⟩ : ∃ s', Stp R B b n I [] w0 K [] s' (f ()) W := h; exact h.row.plan
  | false => have h : Stp R B b n I [] w0 K [] s (Fs.andThen m1 f) W := h; exact h.row.plan
theorem MarkS.below {α : Type} {R : Ending → World → Prop} {B : Nat} {b : Blk} {n I : Int} {w0 : World} {K : α → Ending → World → Prop} {s : Sto} {m1 : Fs.M Unit} {f : Unit → Fs.M α} {k : Bool} {W W' : World} (h : MarkS R B b n I w0 K s m1 f k W) (hb : Below W.heap.size W W') : MarkS R B b n I w0 K s m1 f k W' := by
  cases k with
  | true => obtain ⟨s', h⟩ : ∃ s', Stp R B b n I [] w0 K [] s' (f ()) W := h; exact ⟨s', h.below hb⟩
  | false => have h : Stp R B b n I [] w0 K [] s (Fs.andThen m1 f) W := h; exact h.below hb
theorem MarkS.done {α : Type} {R : Ending → World → Prop} {B : Nat} {b : Blk} {n I : Int} {w0 : World} {K : α → Ending → World → Prop} {s : Sto} {m1 : Fs.M Unit} {f : Unit → Fs.M α} {W : World} (h : MarkS R B b n I w0 K s m1 f true W) : ∃ s', Stp R B b n I [] w0 K [] s' (f ()) W := h
theorem scut_0 {w : World} {B : Nat} {b : Blk} {s : Sto} {n I : Int} (h : Ctx w B b s n I) (m frm : Int) : Calls Tryz.prog 92 #[.pointer (some ⟨B, 0, none⟩), .int .i64 m, .int .i64 1, .int .i64 frm] w (Ends B b n I [] w s (Fs.cutM n I 0 m frm) fun y e _ => e = .returned (.int .i64 y)) := by
  refine calls_of fun R H => ?_
  have S := Lib.hid (Stp.start h (by simp) H)
  have HOK := Lib.hid (bits_ok h.vs).1
  have HDB : Hid (∀ w, Calls Tryz.prog 66 #[.agg (planL n I).toArray] w fun e w' => e = .returned (.int .i64 42) ∧ Below w.heap.size w w') := Lib.hid (fun w => by
    have := plDataBits_any n I w
    rw [if_pos h.vs.pl] at this
    exact this)
  unfold Fs.cutM at S
  by_cases c1 : 1 ≤ frm
  · rw [if_pos c1] at S
    clear h H
    go_enter Tryz.func92, Tryz.ntmps92
    go_wp2_with fail
    exact S.out.done rfl
  · rw [if_neg c1] at S
    by_cases c2 : Fs.isData n I m
    · rw [if_pos c2] at S
      have HBI : Hid (∀ w, Calls Tryz.prog 129 #[.agg (planL n I).toArray, .int .i64 m] w fun e w' => e = .returned (.int .i64 (m - Pl.dataN I)) ∧ Below w.heap.size w w') := Lib.hid (fun w => bit_yes n I m w h.vs.pl c2.1 c2.2)
      have g2 : decide (m - Pl.dataN I < 0) = false := decide_eq_false (by have := c2.1; omega)
      clear h H c2
      go_enter Tryz.func92, Tryz.ntmps92
      go_wp2_with (first
        | (with_reducible refine wpList_load_plan (S.out.row).plan rfl (.tmp 16) rfl rfl ?_)
        | (go_at_call 129; refine (HBI.out _).mono ?_; rintro e w1 ⟨rfl, hb⟩; replace S := Lib.hid (S.out.below hb); clear hb))
      refine wp_region_linp (MarkS R B b n I w (fun (y : Int) e _ => e = .returned (.int .i64 y)) s (Fs.markM 42 (m - Pl.dataN I) false) (fun _ => Fs.ret (0 : Int))) (fun ch W => ch = [failE B] ∧ R (.panicked [failE B]) W) (fun i => i == 14) (fun i => [.pointer (some ⟨B, 0, none⟩), .pointer (some ⟨B, 0, none⟩), .pointer (some ⟨B, 0, none⟩), .pointer (some ⟨B, 0, none⟩), .pointer (some ⟨B, 1, none⟩), .agg (planL n I).toArray, .int .i64 42, .pointer (some ⟨B, 0, none⟩), .pointer (some ⟨B, 0, none⟩), .pointer (some ⟨B, 0, none⟩), .pointer (some ⟨B, 1, none⟩), .agg (planL n I).toArray, .int .i64 m, .int .i64 (m - Pl.dataN I)].getD i undef) false (by kernel_rfl) (by kernel_rfl) (fun ch a' W hd hh => ?_) S.out.drew ?_
      · exact ⟨hd, by obtain ⟨rfl, hR⟩ := hh; exact hR⟩
      refine linp_step (i := 0) (d := some 35) (v := (.pointer (some ⟨B, 0, none⟩))) rfl rfl (by kernel_rfl) (by kernel_rfl) rfl rfl (ord_value (by kernel_rfl) ?_) ?_
      · ((intro _ _ _; go_simp) <;> kernel_rfl)
      try simp only [Act.put, puA, puB, puC]
      refine linp_step (i := 1) (d := some 36) (v := (.pointer (some ⟨B, 0, none⟩))) rfl rfl (by kernel_rfl) (by kernel_rfl) rfl rfl (ord_value (by kernel_rfl) ?_) ?_
      · ((intro _ _ _; go_simp) <;> kernel_rfl)
      try simp only [Act.put, puA, puB, puC]
      refine linp_step (i := 2) (d := some 37) (v := (.pointer (some ⟨B, 0, none⟩))) rfl rfl (by kernel_rfl) (by kernel_rfl) rfl rfl (ord_value (by kernel_rfl) ?_) ?_
      · ((intro _ _ _; go_simp) <;> kernel_rfl)
      try simp only [Act.put, puA, puB, puC]
      refine linp_step (i := 3) (d := some 38) (v := (.pointer (some ⟨B, 0, none⟩))) rfl rfl (by kernel_rfl) (by kernel_rfl) rfl rfl (ord_value (by kernel_rfl) ?_) ?_
      · ((intro _ _ _; go_simp) <;> kernel_rfl)
      try simp only [Act.put, puA, puB, puC]
      refine linp_step (i := 4) (d := some 39) (v := (.pointer (some ⟨B, 1, none⟩))) rfl rfl (by kernel_rfl) (by kernel_rfl) rfl rfl (ord_value (by kernel_rfl) ?_) ?_
      · ((intro _ _ _; go_simp) <;> kernel_rfl)
      try simp only [Act.put, puA, puB, puC]
      refine linp_step (i := 5) (d := some 40) (v := (.agg (planL n I).toArray)) rfl rfl (by kernel_rfl) (by kernel_rfl) rfl rfl (ord_mid loads_plan (by kernel_rfl) (.tmp 39) rfl rfl (fun _ W hS => MarkS.row hS)) ?_
      try simp only [Act.put, puA, puB, puC]
      refine linp_step (i := 6) (d := some 41) (v := (.int .i64 42)) rfl rfl (by kernel_rfl) (by kernel_rfl) rfl rfl (ord_call (f := 66) (args := #[.agg (planL n I).toArray]) (by kernel_rfl) ?_ (fun _ W hS => (HDB.out W).mono fun e w' hh => ⟨hh.1, MarkS.below hS hh.2⟩)) ?_
      · (intro _; go_simp)
      try simp only [Act.put, puA, puB, puC]
      refine linp_step (i := 7) (d := some 42) (v := (.pointer (some ⟨B, 0, none⟩))) rfl rfl (by kernel_rfl) (by kernel_rfl) rfl rfl (ord_value (by kernel_rfl) ?_) ?_
      · ((intro _ _ _; go_simp) <;> kernel_rfl)
      try simp only [Act.put, puA, puB, puC]
      refine linp_step (i := 8) (d := some 43) (v := (.pointer (some ⟨B, 0, none⟩))) rfl rfl (by kernel_rfl) (by kernel_rfl) rfl rfl (ord_value (by kernel_rfl) ?_) ?_
      · ((intro _ _ _; go_simp) <;> kernel_rfl)
      try simp only [Act.put, puA, puB, puC]
      refine linp_step (i := 9) (d := some 44) (v := (.pointer (some ⟨B, 0, none⟩))) rfl rfl (by kernel_rfl) (by kernel_rfl) rfl rfl (ord_value (by kernel_rfl) ?_) ?_
      · ((intro _ _ _; go_simp) <;> kernel_rfl)
      try simp only [Act.put, puA, puB, puC]
      refine linp_step (i := 10) (d := some 45) (v := (.pointer (some ⟨B, 1, none⟩))) rfl rfl (by kernel_rfl) (by kernel_rfl) rfl rfl (ord_value (by kernel_rfl) ?_) ?_
      · ((intro _ _ _; go_simp) <;> kernel_rfl)
      try simp only [Act.put, puA, puB, puC]
      refine linp_step (i := 11) (d := some 46) (v := (.agg (planL n I).toArray)) rfl rfl (by kernel_rfl) (by kernel_rfl) rfl rfl (ord_mid loads_plan (by kernel_rfl) (.tmp 45) rfl rfl (fun _ W hS => MarkS.row hS)) ?_
      try simp only [Act.put, puA, puB, puC]
      refine linp_step (i := 12) (d := some 47) (v := (.int .i64 m)) rfl rfl (by kernel_rfl) (by kernel_rfl) rfl rfl (ord_value (by kernel_rfl) ?_) ?_
      · ((intro _ _ _; go_simp) <;> kernel_rfl)
      try simp only [Act.put, puA, puB, puC]
      refine linp_step (i := 13) (d := some 48) (v := (.int .i64 (m - Pl.dataN I))) rfl rfl (by kernel_rfl) (by kernel_rfl) rfl rfl (ord_call (f := 129) (args := #[.agg (planL n I).toArray, .int .i64 m]) (by kernel_rfl) ?_ (fun _ W hS => (HBI.out W).mono fun e w' hh => ⟨hh.1, MarkS.below hS hh.2⟩)) ?_
      · (intro _; go_simp)
      try simp only [Act.put, puA, puB, puC]
      refine linp_turn (i := 14) (d := some 49) (fun u k => u = .tuple #[] ∧ k = true) rfl rfl (by kernel_rfl) (by kernel_rfl) rfl (by kernel_rfl) ⟨_, _, rfl, rfl⟩ (by kernel_rfl) (gives_all (f := 46) (args := #[.pointer (some ⟨B, 0, none⟩), .int .i64 42, .int .i64 (m - Pl.dataN I), .bool false]) ?_ (fun W hS => (smark_step (Stp.ctx hS) 42 (m - Pl.dataN I) false HOK.out).mono fun e w' hE => by
        rcases Stp.bind hS hE with ⟨rfl, hR⟩ | ⟨_, s', L', _, rfl, S2⟩
        · exact Or.inr ⟨_, rfl, rfl, hR⟩
        · exact Or.inl ⟨_, rfl, true, ⟨rfl, rfl⟩, s', S2⟩)) ?_
      · (intro _; go_simp)
      rintro _ _ ⟨rfl, rfl⟩
      try simp only [Act.put, puA, puB, puC]
      refine linp_done (by kernel_rfl) fun W hS => ?_
      obtain ⟨s5, S5⟩ := MarkS.done hS
      clear S
      have S := Lib.hid S5
      clear S5 hS
      go_wp2_with fail
      exact S.out.done rfl
    · rw [if_neg c2, if_neg (by omega)] at S
      have HBI : Hid (∀ w, Calls Tryz.prog 129 #[.agg (planL n I).toArray, .int .i64 m] w fun e w' => e = .returned (.int .i64 (-1)) ∧ Below w.heap.size w w') := Lib.hid (fun w => bit_no n I m w h.vs.pl (by unfold Fs.isData at c2; omega))
      clear h H c2
      go_enter Tryz.func92, Tryz.ntmps92
      go_wp2_with (first
        | (with_reducible refine wpList_load_plan (S.out.row).plan rfl (.tmp 16) rfl rfl ?_)
        | (go_at_call 129; refine (HBI.out _).mono ?_; rintro e w1 ⟨rfl, hb⟩; replace S := Lib.hid (S.out.below hb); clear hb))
      exact S.out.done rfl
end

section
open Go.RowKit
open Dk (zeros zeros_length)
def zeroB (ps : List (List UInt8)) (n : Nat) : Bool := decide (∀ i, i < n → ps.getD i [] = zeros)
theorem run_eqZero (w : World) (p : List UInt8) (hp : p.length = 64) : (Op.equalIn 10000 68 (.agg (byteVals p).toArray) (.agg zeroCells)).run Tryz.prog w = .ok (decide (p = zeros)) w := by
  have := run_eqPages w p zeros hp zeros_length
  unfold pageV at this
  exact this
theorem zero_row (b off n c : Nat) (ps : List (List UInt8)) (w : World) (hl : ps.length = n) (hn : n ≤ 1000) (hb : b < w.heap.size)
    (hsize : ∀ i, i < n → (ps.getD i []).length = 64) (hcell : ∀ i, i < n → w.rangeAt b (off + i * 64) (byteVals (ps.getD i []))) :
    Calls Tryz.prog 151 #[.slice (some ⟨b, off, none⟩) n c] w fun e w' => e = .returned (.bool (zeroB ps n)) ∧ Below w.heap.size w w' := by
  have HC := Lib.hid hcell
  have HZ := Lib.hid hsize
  clear hcell hl hsize
  go_enter Tryz.func151, Tryz.ntmps151
  go_wp2_with fail
  go_loopw [7] (fun i wr => ∃ k : Nat, k ≤ n ∧ i = .int .i64 k ∧ Hid (∀ j, j < k → ps.getD j [] = zeros) ∧ Below w.heap.size w wr) (fun i _ => n - (intOf i).toNat)
  case atStart => exact ⟨0, Nat.zero_le _, rfl, Lib.hid (fun j hj => by omega), Below.refl _ _⟩
  case round =>
    obtain ⟨k, hk, rfl, HA, hbel⟩ := hrel
    by_cases hlt : k < n
    · have hcr : Hid (wr.rangeAt b (off + k * 64) (byteVals (ps.getD k []))) := Lib.hid fun j v hv => (hbel.cell (p := ⟨b, off + k * 64 + j, none⟩) hb).trans (HC.out k hlt j v hv)
      have hz := Lib.hid (HZ.out k hlt)
      have hlen : Hid ((byteVals (ps.getD k [])).length = 64) := Lib.hid (by rw [byteVals_length]; exact hz.out)
      have heq := fun W => run_eqZero W (ps.getD k []) hz.out
      rw [zeroCells_def] at heq
      by_cases hp : ps.getD k [] = zeros
      · have hd : decide (ps.getD k [] = zeros) = true := decide_eq_true hp
        rw [hd] at heq
        have HA2 : Hid (∀ j, j < k + 1 → ps.getD j [] = zeros) := Lib.hid (fun j hj => by
          rcases Nat.lt_or_ge j k with h | h
          · exact HA.out j h
          · obtain rfl : j = k := by omega
            exact hp)
        clear hp hd
        generalize ps.getD k [] = p at hcr hz hlen heq
        go_wp2_with (first
          | (with_reducible refine wpList_load_mid rfl 68 (.tmp 9) rfl b (off + k * 64) rfl (byteVals p) _ hcr.out Tryz.underlying68 rfl (page_info.trans (congrArg some hlen.out.symm)) ?_)
          | ((with_reducible refine wpList_store_new rfl (.tmp 4) (.tmp 10) rfl rfl ?_ ?_ hz.out ?_); (exact rfl); (exact rfl); intro W2 hP hB2 hz2)
          | (with_reducible refine wpList_load_mid rfl 68 (.tmp 4) rfl wr.heap.size 0 rfl (byteVals p) _ hP.range Tryz.underlying68 rfl (page_info.trans (congrArg some hlen.out.symm)) ?_))
        go_roundw
        case rel => exact ⟨k + 1, by omega, by go_num, HA2, hbel.trans (hB2.mono hbel.size)⟩
        case measure => simp [intOf]; omega
      · have hd : decide (ps.getD k [] = zeros) = false := decide_eq_false hp
        rw [hd] at heq
        have HF : Hid (zeroB ps n = false) := Lib.hid (by unfold zeroB; rw [decide_eq_false_iff_not]; exact fun h => hp (h k hlt))
        clear hp hd
        generalize ps.getD k [] = p at hcr hz hlen heq
        go_wp2_with (first
          | (with_reducible refine wpList_load_mid rfl 68 (.tmp 9) rfl b (off + k * 64) rfl (byteVals p) _ hcr.out Tryz.underlying68 rfl (page_info.trans (congrArg some hlen.out.symm)) ?_)
          | ((with_reducible refine wpList_store_new rfl (.tmp 4) (.tmp 10) rfl rfl ?_ ?_ hz.out ?_); (exact rfl); (exact rfl); intro W2 hP hB2 hz2)
          | (with_reducible refine wpList_load_mid rfl 68 (.tmp 4) rfl wr.heap.size 0 rfl (byteVals p) _ hP.range Tryz.underlying68 rfl (page_info.trans (congrArg some hlen.out.symm)) ?_))
        go_ret
        exact ⟨ret_bool HF.out.symm, hbel.trans (hB2.mono hbel.size)⟩
    · obtain rfl : k = n := by omega
      have HT : Hid (zeroB ps k = true) := Lib.hid (by unfold zeroB; exact decide_eq_true HA.out)
      go_wp2
      go_ret
      exact ⟨ret_bool HT.out.symm, hbel⟩
end

section
open Go.RowKit Go.Maps
open Dk (zeros zeros_length)
open Ii (Ino)
theorem zeroB_one (p : List UInt8) : zeroB [p] 1 = decide (p = zeros) := by
  unfold zeroB
  congr 1
  apply propext
  constructor
  · intro h; exact h 0 (by decide)
  · intro h i hi
    obtain rfl : i = 0 := by omega
    exact h
theorem wnums_at (p : List UInt8) (k : Nat) (hk : k < 32) : (numsUpto p 32)[k]? = some (numN p (k : Int)) := by
  unfold numsUpto
  simp [hk]
def CnS (R : Ending → World → Prop) (B : Nat) (b : Blk) (n I : Int) (w0 : World) (K : Bool → Ending → World → Prop) (l : List (Nat × List Value)) (B0 : Nat) (was : List UInt8) (s : Sto) (m1 : Fs.M Int) (f : Int → Fs.M Bool) (k : Option Int) (W : World) : Prop :=
  (match k with
    | none => Stp R B b n I [] w0 K l s (Fs.andThen m1 f) W
    | some y => ∃ s', Stp R B b n I [] w0 K l s' (f y) W) ∧ IntRow W (some ⟨B0, 0, none⟩) 32 (numsUpto was 32)
section
variable {R : Ending → World → Prop} {B : Nat} {b : Blk} {n I : Int} {w0 : World} {K : Bool → Ending → World → Prop} {l : List (Nat × List Value)} {B0 : Nat} {was : List UInt8} {s : Sto} {m1 : Fs.M Int} {f : Int → Fs.M Bool} {k : Option Int} {W W' : World}
theorem CnS.lo (h : CnS R B b n I w0 K l B0 was s m1 f k W) : Lo [b.t] w0 l W := by
  obtain ⟨h, _⟩ := h
  cases k with
  | none => exact (show Stp R B b n I [] w0 K l s (Fs.andThen m1 f) W from h).lo
  | some y => obtain ⟨s', h⟩ := (show ∃ s', Stp R B b n I [] w0 K l s' (f y) W from h); exact h.lo
theorem CnS.below (h : CnS R B b n I w0 K l B0 was s m1 f k W) (hb : Below W.heap.size W W') : CnS R B b n I w0 K l B0 was s m1 f k W' := by
  obtain ⟨h, h2⟩ := h
  refine ⟨?_, h2.step hb⟩
  cases k with
  | none => exact (show Stp R B b n I [] w0 K l s (Fs.andThen m1 f) W from h).below hb
  | some y => obtain ⟨s', h⟩ := (show ∃ s', Stp R B b n I [] w0 K l s' (f y) W from h); exact ⟨s', h.below hb⟩
end
theorem scutNums_step {w : World} {B : Nat} {b : Blk} {s : Sto} {n I : Int} (sub : Int → Int → Fs.M Int) (q : Int) (hq : 1 ≤ q ∧ q ≤ 32) (Z : Int) (hZ : 0 ≤ Z ∧ Z ≤ 1000000000) (HSUB : ∀ W s' m frm, Ctx W B b s' n I → -Z - 1024 ≤ frm → frm ≤ 1000000 → Calls Tryz.prog 92 #[.pointer (some ⟨B, 0, none⟩), .int .i64 m, .int .i64 q, .int .i64 frm] W (Ends B b n I [] W s' (sub m frm) fun y e _ => e = .returned (.int .i64 y)))
    (h : Ctx w B b s n I) (m frm : Int) (hm : okP n m) (hf : -Z ≤ frm ∧ frm ≤ 1000000) : Calls Tryz.prog 130 #[.pointer (some ⟨B, 0, none⟩), .int .i64 m, .int .i64 q, .int .i64 frm] w (Ends B b n I [] w s (Fs.cutNums sub q m frm) fun left e _ => e = .returned (.bool left)) := by
  refine calls_of fun R H => ?_
  have S0 := Lib.hid (Stp.start h (by simp) H)
  have S := Lib.hid (Stp.saw S0.out)
  clear S0
  have HT : Hid (b.t < w.heap.size) := Lib.hid (h.store.lt _ b.t_mem)
  have r3 := (h.vs.read hm).2.2
  have HL := Lib.hid r3
  have HG : Hid (∀ W, Ctx W B b s n I → Calls Tryz.prog 87 #[.pointer (some ⟨B, 0, none⟩), .int .i64 m] W fun e w' => e = .returned (pageV (nv s m.toNat)) ∧ Below W.heap.size W w') := Lib.hid (fun W hc => spage_any hc m hm)
  have HM := Lib.hid hm
  have HS := Lib.hid HSUB
  clear h H r3 hm HSUB
  generalize nv s m.toNat = was at HL HG S
  go_enter Tryz.func130, Tryz.ntmps130
  go_wp2_with (first
    | (go_at_call 87; (with_reducible refine (HG.out _ S.out.ctx).mono ?_); rintro e w1 ⟨rfl, hb⟩; replace S := Lib.hid (S.out.below hb); clear hb)
    | ((with_reducible refine wpList_store_new rfl (.tmp 9) (.tmp 15) rfl rfl ?_ ?_ HL.out ?_); (exact rfl); (exact rfl); intro W2 hP hB2 hz2; replace S := Lib.hid (S.out.made hP.rowAt hB2 hz2); clear hP hB2 hz2)
    | (with_reducible refine wpList_load_page (S.out.lo.page 0 rfl HL.out) rfl (.tmp 9) rfl rfl ?_)
    | ((with_reducible refine wpList_store_new rfl (.tmp 10) (.tmp 16) rfl rfl ?_ ?_ HL.out ?_); (exact rfl); (exact rfl); intro W3 hP hB2 hz2; replace S := Lib.hid (S.out.made hP.rowAt hB2 hz2); clear hP hB2 hz2)
    | (go_at_call 150; (with_reducible refine (wnumbers_any was _ HL.out).mono ?_); rintro e w4 ⟨B0, rfl, hI, hb, hB0⟩; have HI := Lib.hid hI; have HB0 : Hid (W2.heap.size < B0 ∧ w.heap.size ≤ B0) := Lib.hid ⟨Nat.lt_of_lt_of_le (S.out.lo.lt 1 _ rfl) hB0, Nat.le_trans S.out.lo.only.size hB0⟩; replace S := Lib.hid (S.out.below hb); clear hb hI hB0))
  generalize w1.heap.size = b9 at S ⊢
  generalize W2.heap.size = b10 at S HB0 ⊢
  have HNE : Hid (B0 ≠ b10) := Lib.hid (by have := HB0.out.1; omega)
  go_loopw [20] (fun i wr => ∃ (k : Nat) (p : List UInt8) (s3 : Sto), k ≤ 32 ∧ i = .int .i64 k ∧ Hid (p.length = 64) ∧ Hid (Stp R B b n I [] w (fun (left : Bool) e _ => e = .returned (.bool left)) [(b9, byteVals was), (b10, byteVals p)] s3 (Fs.andThen (Fs.cutLoop sub q frm was k (32 - k) p) fun p => if p = zeros then Fs.ret false else if p = was then Fs.ret true else Fs.andThen (Fs.wr m.toNat p) fun _ => Fs.ret true) wr) ∧ Hid (IntRow wr (some ⟨B0, 0, none⟩) 32 (numsUpto was 32))) (fun i _ => 32 - (intOf i).toNat)
  case atStart => exact ⟨0, was, s, by omega, rfl, HL, S, HI⟩
  case round =>
    clear S HI HG
    obtain ⟨k0, p, s3, hk, rfl, HP, S, HI⟩ := hrel
    by_cases hlt : k0 < 32
    · obtain ⟨bb, off, he, hbb, hcc⟩ := HI.out.cells (by omega)
      injection he with he
      injection he with he1 he2
      subst he1
      subst he2
      have ck : wr.cell? ⟨B0, 0 + k0, none⟩ = some (.int .i64 (numN was (k0 : Int))) := hcc k0 _ (wnums_at was k0 hlt)
      rw [Nat.zero_add] at ck
      clear hcc hbb
      rw [show 32 - k0 = (32 - (k0 + 1)) + 1 by omega, Fs.cutLoop, Fs.andThen_assoc] at S
      obtain ⟨x, hx⟩ : ∃ x, numN was (k0 : Int) = x := ⟨_, rfl⟩
      rw [hx] at S ck
      clear hx
      have hkq : 0 ≤ (k0 : Int) * q ∧ (k0 : Int) * q ≤ 1024 := ⟨Int.mul_nonneg (by omega) (by omega), by
        have h1 : (k0 : Int) * q ≤ 32 * 32 := Int.mul_le_mul (by omega) (by omega) (by omega) (by omega)
        omega⟩
      have HBD : Hid (-Z - 1024 ≤ frm - (k0 : Int) * q ∧ frm - (k0 : Int) * q ≤ 1000000) := Lib.hid (by omega)
      have gm : IntKind.i64.wrap ((k0 : Int) * q) = (k0 : Int) * q := IntWalk.i64_in _ (by omega)
      have gs : IntKind.i64.wrap (frm - (k0 : Int) * q) = frm - (k0 : Int) * q := IntWalk.i64_in _ (by omega)
      go_wp2_with fail
      refine wp_region_linp (SO (fun (k : Option Int) W => CnS R B b n I w (fun (left : Bool) e _ => e = .returned (.bool left)) [(b9, byteVals was), (b10, byteVals p)] B0 was s3 (sub x (frm - (k0 : Int) * q)) (fun y => Fs.andThen (Fs.cutLoop sub q frm was (k0 + 1) (32 - (k0 + 1)) (setNum p (k0 : Int) y)) fun p => if p = zeros then Fs.ret false else if p = was then Fs.ret true else Fs.andThen (Fs.wr m.toNat p) fun _ => Fs.ret true) k W)) (fun ch W => ch = [failE B] ∧ R (.panicked [failE B]) W) (fun i => i == 10 || i == 11 || i == 12) (fun i => [pageV p, .int .i64 (k0 : Int), .pointer (some ⟨B, 0, none⟩), .int .i64 x, .int .i64 q, .int .i64 frm, .int .i64 (k0 : Int), .int .i64 q, .int .i64 ((k0 : Int) * q), .int .i64 (frm - (k0 : Int) * q)].getD i undef) (some none) (by kernel_rfl) (by kernel_rfl) (fun ch a' W hd hh => ?_) ⟨S.out.drew, HI.out.step ((Below.refl _ _).drew)⟩ ?_
      · exact ⟨hd, by obtain ⟨rfl, hR⟩ := hh; exact hR⟩
      refine linp_step (i := 0) (d := some 25) (v := (pageV p)) rfl rfl (by kernel_rfl) (by kernel_rfl) rfl rfl (ord_page (by kernel_rfl) (.tmp 10) rfl rfl (SO.all (fun _ W hS => (CnS.lo hS).page 1 rfl HP.out))) ?_
      try simp only [Act.put, puA, puB, puC]
      refine linp_step (i := 1) (d := some 26) (v := (.int .i64 (k0 : Int))) rfl rfl (by kernel_rfl) (by kernel_rfl) rfl rfl (ord_value (by kernel_rfl) ?_) ?_
      · ((intro _ _ _; go_simp) <;> kernel_rfl)
      try simp only [Act.put, puA, puB, puC]
      refine linp_step (i := 2) (d := some 27) (v := (.pointer (some ⟨B, 0, none⟩))) rfl rfl (by kernel_rfl) (by kernel_rfl) rfl rfl (ord_value (by kernel_rfl) ?_) ?_
      · ((intro _ _ _; go_simp) <;> kernel_rfl)
      try simp only [Act.put, puA, puB, puC]
      refine linp_step (i := 3) (d := some 28) (v := (.int .i64 x)) rfl rfl (by kernel_rfl) (by kernel_rfl) rfl rfl (ord_value (by kernel_rfl) ?_) ?_
      · ((intro _ _ _; go_simp) <;> kernel_rfl)
      try simp only [Act.put, puA, puB, puC]
      refine linp_step (i := 4) (d := some 29) (v := (.int .i64 q)) rfl rfl (by kernel_rfl) (by kernel_rfl) rfl rfl (ord_value (by kernel_rfl) ?_) ?_
      · ((intro _ _ _; go_simp) <;> kernel_rfl)
      try simp only [Act.put, puA, puB, puC]
      refine linp_step (i := 5) (d := some 30) (v := (.int .i64 frm)) rfl rfl (by kernel_rfl) (by kernel_rfl) rfl rfl (ord_value (by kernel_rfl) ?_) ?_
      · ((intro _ _ _; go_simp) <;> kernel_rfl)
      try simp only [Act.put, puA, puB, puC]
      refine linp_step (i := 6) (d := some 31) (v := (.int .i64 (k0 : Int))) rfl rfl (by kernel_rfl) (by kernel_rfl) rfl rfl (ord_value (by kernel_rfl) ?_) ?_
      · ((intro _ _ _; go_simp) <;> kernel_rfl)
      try simp only [Act.put, puA, puB, puC]
      refine linp_step (i := 7) (d := some 32) (v := (.int .i64 q)) rfl rfl (by kernel_rfl) (by kernel_rfl) rfl rfl (ord_value (by kernel_rfl) ?_) ?_
      · ((intro _ _ _; go_simp) <;> kernel_rfl)
      try simp only [Act.put, puA, puB, puC]
      refine linp_step (i := 8) (d := some 33) (v := (.int .i64 ((k0 : Int) * q))) rfl rfl (by kernel_rfl) (by kernel_rfl) rfl rfl (ord_value (by kernel_rfl) ?_) ?_
      · ((intro _ _ _; go_simp) <;> kernel_rfl)
      try simp only [Act.put, puA, puB, puC]
      refine linp_step (i := 9) (d := some 34) (v := (.int .i64 (frm - (k0 : Int) * q))) rfl rfl (by kernel_rfl) (by kernel_rfl) rfl rfl (ord_value (by kernel_rfl) ?_) ?_
      · ((intro _ _ _; go_simp) <;> kernel_rfl)
      try simp only [Act.put, puA, puB, puC]
      have HSN := Lib.hid (fun y W => setNumber_any p (k0 : Int) y W HP.out)
      refine linp_turn (i := 10) (d := some 35) (fun u k => ∃ y, u = .int .i64 y ∧ k = some (some y)) rfl rfl (by kernel_rfl) (by kernel_rfl) rfl (by kernel_rfl) ⟨.int .i64 0, some (some 0), 0, rfl, rfl⟩ (by kernel_rfl) (gives_all (f := 92) (args := #[.pointer (some ⟨B, 0, none⟩), .int .i64 x, .int .i64 q, .int .i64 (frm - (k0 : Int) * q)]) ?_ (fun W hS => (HS.out W s3 x (frm - (k0 : Int) * q) (show Stp R B b n I [] w _ _ s3 (Fs.andThen _ _) W from hS.1).ctx HBD.out.1 HBD.out.2).mono fun e w' hE => by
        rcases Stp.bindO (show Stp R B b n I [] w _ _ s3 (Fs.andThen _ _) W from hS.1) hE with ⟨rfl, hR⟩ | ⟨y, s', L', _, rfl, S2, hO⟩
        · exact Or.inr ⟨_, rfl, rfl, hR⟩
        · exact Or.inl ⟨_, rfl, some (some y), ⟨y, rfl, rfl⟩, ⟨s', S2⟩, hS.2.only hO (fun b' o he => by injection he with he; injection he with he; subst he; have := HB0.out.2; have := HT.out; simp; omega)⟩)) ?_
      · (intro _; go_simp)
      rintro _ _ ⟨y, rfl, rfl⟩
      try simp only [Act.put, puA, puB, puC]
      refine linp_turn (i := 11) (d := some 36) (fun u k => u = pageV (setNum p (k0 : Int) y) ∧ k = some (some y)) rfl rfl (by kernel_rfl) (by kernel_rfl) rfl (by kernel_rfl) ⟨_, _, rfl, rfl⟩ (by kernel_rfl) (gives_all (f := 96) (args := #[pageV p, .int .i64 (k0 : Int), .int .i64 y]) ?_ (fun W hS => (HSN.out y W).mono fun e w' hh => Or.inl ⟨_, hh.1, some (some y), ⟨rfl, rfl⟩, CnS.below (SO.some hS) hh.2⟩)) ?_
      · (intro _; go_simp)
      rintro _ _ ⟨rfl, rfl⟩
      try simp only [Act.put, puA, puB, puC]
      refine linp_last (i := 12) (d := none) rfl rfl (by kernel_rfl) rfl (by kernel_rfl) (by kernel_rfl) fun W hS => givesP_of (gives_store_page ((CnS.lo (SO.some hS)).page 1 rfl HP.out) (setNum_length p (k0 : Int) y HP.out) (.tmp 10) (.tmp 36) rfl rfl rfl ?_)
      obtain ⟨⟨s5, S5⟩, I5⟩ := (show (∃ s', Stp R B b n I [] w _ _ s' _ W) ∧ _ from hS)
      have S6 := Lib.hid (S5.put 1 _ rfl (byteVals (setNum p (k0 : Int) y)) (by rw [byteVals_length, byteVals_length, HP.out, setNum_length p (k0 : Int) y HP.out]))
      have I6 := Lib.hid (I5.only ((Only.refl [b10] W).setCells b10 (by simp) (byteVals (setNum p (k0 : Int) y)) 0 W) (fun b' o he => by injection he with he; injection he with he; subst he; simpa using HNE.out))
      have HP6 := Lib.hid (setNum_length p (k0 : Int) y HP.out)
      clear S5 I5 hS S HI HSN ck
      try simp only [Act.put, puA, puB, puC]
      go_wp2_with fail
      go_roundw
      case rel => exact ⟨k0 + 1, _, s5, by omega, by go_num, HP6, S6, I6⟩
      case measure => simp [intOf]; omega
    · obtain rfl : k0 = 32 := by omega
      rw [show 32 - 32 = 0 by rfl, Fs.cutLoop, Fs.ret_andThen] at S
      have hbl : (byteVals p).length = 64 := by rw [byteVals_length]; exact HP.out
      by_cases z : p = zeros
      · rw [if_pos z] at S
        have HZ : Hid (∀ W b', b' < W.heap.size → PageAt W b' p → Calls Tryz.prog 151 #[.slice (some ⟨b', 0, none⟩) 1 1] W fun e w' => e = .returned (.bool true) ∧ Below W.heap.size W w') := Lib.hid (fun W b' hb' hp => by
          have := zero_row b' 0 1 1 [p] W rfl (by omega) hb' (fun i hi => by obtain rfl : i = 0 := (by omega); exact HP.out) (fun i hi => by obtain rfl : i = 0 := (by omega); exact hp.range)
          rw [zeroB_one, decide_eq_true z] at this
          exact this)
        clear z
        go_wp2_with (with_reducible refine wpList_load_mid rfl 68 (.tmp 10) rfl b10 0 rfl (byteVals p) _ (S.out.lo.page 1 rfl HP.out).range Tryz.underlying68 rfl (by rw [page_info, byteVals_length, HP.out]) ?_)
        rw [fold_page rfl HP.out]
        generalize hw : World.alloc _ _ = w2
        replace S : Hid (Stp R B b n I [] w (fun (left : Bool) e _ => e = .returned (.bool left)) [(b9, byteVals was), (b10, byteVals p), (wr.heap.size, byteVals p)] s3 (Fs.ret false) w2) := Lib.hid (by rw [← hw]; exact S.out.alloc _ rfl (byteVals p) _)
        clear hw
        replace HZ := Lib.hid (HZ.out w2 wr.heap.size (S.out.lo.lt 2 _ rfl) (S.out.lo.page 2 rfl HP.out))
        go_wp2_with (go_at_call 151; (with_reducible refine HZ.out.mono ?_); rintro e w3 ⟨rfl, hb⟩; replace S := Lib.hid (S.out.below hb); clear hb HZ)
        exact S.out.done rfl
      · rw [if_neg z] at S
        have HZ : Hid (∀ W b', b' < W.heap.size → PageAt W b' p → Calls Tryz.prog 151 #[.slice (some ⟨b', 0, none⟩) 1 1] W fun e w' => e = .returned (.bool false) ∧ Below W.heap.size W w') := Lib.hid (fun W b' hb' hp => by
          have := zero_row b' 0 1 1 [p] W rfl (by omega) hb' (fun i hi => by obtain rfl : i = 0 := (by omega); exact HP.out) (fun i hi => by obtain rfl : i = 0 := (by omega); exact hp.range)
          rw [zeroB_one, decide_eq_false z] at this
          exact this)
        clear z
        by_cases e0 : p = was
        · rw [if_pos e0] at S
          have E1 : ∀ (w : World), (binOp .neq 68 (pageV p) (pageV was)).run Tryz.prog w = .ok (.bool false) w := fun w => by rw [e0]; exact run_neq_same w was HL.out
          have E0 : ∀ (w : World) (x y : Operand), (eqGuard .neq 68 x y (pageV p) (pageV was)).run Tryz.prog w = .ok () w := fun w x y => run_neGuard_page w x y p was
          clear e0
          go_wp2_with (with_reducible refine wpList_load_mid rfl 68 (.tmp 10) rfl b10 0 rfl (byteVals p) _ (S.out.lo.page 1 rfl HP.out).range Tryz.underlying68 rfl (by rw [page_info, byteVals_length, HP.out]) ?_)
          rw [fold_page rfl HP.out]
          generalize hw : World.alloc _ _ = w2
          replace S : Hid (Stp R B b n I [] w (fun (left : Bool) e _ => e = .returned (.bool left)) [(b9, byteVals was), (b10, byteVals p), (wr.heap.size, byteVals p)] s3 (Fs.ret true) w2) := Lib.hid (by rw [← hw]; exact S.out.alloc _ rfl (byteVals p) _)
          clear hw
          replace HZ := Lib.hid (HZ.out w2 wr.heap.size (S.out.lo.lt 2 _ rfl) (S.out.lo.page 2 rfl HP.out))
          go_wp2_with (first
            | (go_at_call 151; (with_reducible refine HZ.out.mono ?_); rintro e w3 ⟨rfl, hb⟩; replace S := Lib.hid (S.out.below hb); clear hb HZ)
            | (with_reducible refine wpList_load_page (S.out.lo.page 1 rfl HP.out) rfl (.tmp 10) rfl rfl ?_)
            | (with_reducible refine wpList_load_page (S.out.lo.page 0 rfl HL.out) rfl (.tmp 9) rfl rfl ?_))
          exact S.out.done rfl
        · rw [if_neg e0] at S
          have E1 : ∀ (w : World), (binOp .neq 68 (pageV p) (pageV was)).run Tryz.prog w = .ok (.bool true) w := fun w => run_neq_not w p was HP.out HL.out e0
          have E0 : ∀ (w : World) (x y : Operand), (eqGuard .neq 68 x y (pageV p) (pageV was)).run Tryz.prog w = .ok () w := fun w x y => run_neGuard_page w x y p was
          clear e0
          go_wp2_with (with_reducible refine wpList_load_mid rfl 68 (.tmp 10) rfl b10 0 rfl (byteVals p) _ (S.out.lo.page 1 rfl HP.out).range Tryz.underlying68 rfl (by rw [page_info, byteVals_length, HP.out]) ?_)
          rw [fold_page rfl HP.out]
          generalize hw : World.alloc _ _ = w2
          replace S : Hid (Stp R B b n I [] w (fun (left : Bool) e _ => e = .returned (.bool left)) [(b9, byteVals was), (b10, byteVals p), (wr.heap.size, byteVals p)] s3 (Fs.andThen (Fs.wr m.toNat p) fun _ => Fs.ret true) w2) := Lib.hid (by rw [← hw]; exact S.out.alloc _ rfl (byteVals p) _)
          clear hw
          replace HZ := Lib.hid (HZ.out w2 wr.heap.size (S.out.lo.lt 2 _ rfl) (S.out.lo.page 2 rfl HP.out))
          go_wp2_with (first
            | (go_at_call 151; (with_reducible refine HZ.out.mono ?_); rintro e w3 ⟨rfl, hb⟩; replace S := Lib.hid (S.out.below hb); clear hb HZ)
            | (with_reducible refine wpList_load_page (S.out.lo.page 1 rfl HP.out) rfl (.tmp 10) rfl rfl ?_)
            | (with_reducible refine wpList_load_page (S.out.lo.page 0 rfl HL.out) rfl (.tmp 9) rfl rfl ?_)
            | (go_at_call 53; (with_reducible refine (sput_step S.out.ctx m p HM.out HP.out).mono ?_); intro e w8 hE; rcases S.out.bind hE with ⟨rfl, hR⟩ | ⟨_, s6, L6, _, rfl, S2⟩; (exact ⟨rfl, hR⟩); clear S hE; have S := Lib.hid S2; clear S2))
          exact S.out.done rfl
end

section
open Go.RowKit Go.Maps
open Dk (zeros zeros_length)
open Ii (Ino)
theorem scut_1 {w : World} {B : Nat} {b : Blk} {s : Sto} {n I : Int} (h : Ctx w B b s n I) (m frm : Int) (h1 : -2000000 ≤ frm) (h2 : frm ≤ 1000000) : Calls Tryz.prog 92 #[.pointer (some ⟨B, 0, none⟩), .int .i64 m, .int .i64 32, .int .i64 frm] w (Ends B b n I [] w s (Fs.cutM n I 1 m frm) fun y e _ => e = .returned (.int .i64 y)) := by
  refine calls_of fun R H => ?_
  have S := Lib.hid (Stp.start h (by simp) H)
  have HOK := Lib.hid (bits_ok h.vs).1
  have HDB : Hid (∀ w, Calls Tryz.prog 66 #[.agg (planL n I).toArray] w fun e w' => e = .returned (.int .i64 42) ∧ Below w.heap.size w w') := Lib.hid (fun w => by
    have := plDataBits_any n I w
    rw [if_pos h.vs.pl] at this
    exact this)
  have HCN : Hid (∀ W, Ctx W B b s n I → okP n m → Calls Tryz.prog 130 #[.pointer (some ⟨B, 0, none⟩), .int .i64 m, .int .i64 1, .int .i64 frm] W (Ends B b n I [] W s (Fs.cutNums (Fs.cutM n I 0) ((32 : Int) ^ 0) m frm) fun left e _ => e = .returned (.bool left))) := Lib.hid (fun W hc hm => scutNums_step (Fs.cutM n I 0) 1 (by decide) 2000000 (by decide) (fun W s' m frm hc _ _ => scut_0 hc m frm) hc m frm hm ⟨h1, h2⟩)
  unfold Fs.cutM at S
  by_cases c1 : (32 : Int) ^ (0 + 1) ≤ frm
  · rw [if_pos c1] at S
    have c0 : (32 : Int) ≤ frm := c1
    clear h H HCN c1
    go_enter Tryz.func92, Tryz.ntmps92
    go_wp2_with fail
    exact S.out.done rfl
  · rw [if_neg c1] at S
    have c0 : ¬ (32 : Int) ≤ frm := c1
    clear c1
    by_cases c2 : Fs.isData n I m
    · rw [if_pos c2] at S
      have HBI : Hid (∀ w, Calls Tryz.prog 129 #[.agg (planL n I).toArray, .int .i64 m] w fun e w' => e = .returned (.int .i64 (m - Pl.dataN I)) ∧ Below w.heap.size w w') := Lib.hid (fun w => bit_yes n I m w h.vs.pl c2.1 c2.2)
      have g2 : decide (m - Pl.dataN I < 0) = false := decide_eq_false (by have := c2.1; omega)
      have HMO := Lib.hid (data_ok h.vs c2).1
      clear h H c2
      go_enter Tryz.func92, Tryz.ntmps92
      go_wp2_with (first
        | (with_reducible refine wpList_load_plan (S.out.row).plan rfl (.tmp 16) rfl rfl ?_)
        | (go_at_call 129; refine (HBI.out _).mono ?_; rintro e w1 ⟨rfl, hb⟩; replace S := Lib.hid (S.out.below hb); clear hb))
      refine (HCN.out _ S.out.ctx HMO.out).mono ?_
      intro e w8 hE
      rcases S.out.bind hE with ⟨rfl, hR⟩ | ⟨left, s, L6, _, rfl, S2⟩
      · exact ⟨rfl, hR⟩
      clear S hE
      have S := Lib.hid S2
      clear S2
      cases left with
      | true =>
        rw [if_pos rfl] at S
        go_wp2_with fail
        exact S.out.done rfl
      | false =>
        rw [if_neg (by decide)] at S
        go_wp2_with fail
        refine wp_region_linp (MarkS R B b n I w (fun (y : Int) e _ => e = .returned (.int .i64 y)) s (Fs.markM 42 (m - Pl.dataN I) false) (fun _ => Fs.ret (0 : Int))) (fun ch W => ch = [failE B] ∧ R (.panicked [failE B]) W) (fun i => i == 14) (fun i => [.pointer (some ⟨B, 0, none⟩), .pointer (some ⟨B, 0, none⟩), .pointer (some ⟨B, 0, none⟩), .pointer (some ⟨B, 0, none⟩), .pointer (some ⟨B, 1, none⟩), .agg (planL n I).toArray, .int .i64 42, .pointer (some ⟨B, 0, none⟩), .pointer (some ⟨B, 0, none⟩), .pointer (some ⟨B, 0, none⟩), .pointer (some ⟨B, 1, none⟩), .agg (planL n I).toArray, .int .i64 m, .int .i64 (m - Pl.dataN I)].getD i undef) false (by kernel_rfl) (by kernel_rfl) (fun ch a' W hd hh => ?_) S.out.drew ?_
        · exact ⟨hd, by obtain ⟨rfl, hR⟩ := hh; exact hR⟩
        refine linp_step (i := 0) (d := some 35) (v := (.pointer (some ⟨B, 0, none⟩))) rfl rfl (by kernel_rfl) (by kernel_rfl) rfl rfl (ord_value (by kernel_rfl) ?_) ?_
        · ((intro _ _ _; go_simp) <;> kernel_rfl)
        try simp only [Act.put, puA, puB, puC]
        refine linp_step (i := 1) (d := some 36) (v := (.pointer (some ⟨B, 0, none⟩))) rfl rfl (by kernel_rfl) (by kernel_rfl) rfl rfl (ord_value (by kernel_rfl) ?_) ?_
        · ((intro _ _ _; go_simp) <;> kernel_rfl)
        try simp only [Act.put, puA, puB, puC]
        refine linp_step (i := 2) (d := some 37) (v := (.pointer (some ⟨B, 0, none⟩))) rfl rfl (by kernel_rfl) (by kernel_rfl) rfl rfl (ord_value (by kernel_rfl) ?_) ?_
        · ((intro _ _ _; go_simp) <;> kernel_rfl)
        try simp only [Act.put, puA, puB, puC]
        refine linp_step (i := 3) (d := some 38) (v := (.pointer (some ⟨B, 0, none⟩))) rfl rfl (by kernel_rfl) (by kernel_rfl) rfl rfl (ord_value (by kernel_rfl) ?_) ?_
        · ((intro _ _ _; go_simp) <;> kernel_rfl)
        try simp only [Act.put, puA, puB, puC]
        refine linp_step (i := 4) (d := some 39) (v := (.pointer (some ⟨B, 1, none⟩))) rfl rfl (by kernel_rfl) (by kernel_rfl) rfl rfl (ord_value (by kernel_rfl) ?_) ?_
        · ((intro _ _ _; go_simp) <;> kernel_rfl)
        try simp only [Act.put, puA, puB, puC]
        refine linp_step (i := 5) (d := some 40) (v := (.agg (planL n I).toArray)) rfl rfl (by kernel_rfl) (by kernel_rfl) rfl rfl (ord_mid loads_plan (by kernel_rfl) (.tmp 39) rfl rfl (fun _ W hS => MarkS.row hS)) ?_
        try simp only [Act.put, puA, puB, puC]
        refine linp_step (i := 6) (d := some 41) (v := (.int .i64 42)) rfl rfl (by kernel_rfl) (by kernel_rfl) rfl rfl (ord_call (f := 66) (args := #[.agg (planL n I).toArray]) (by kernel_rfl) ?_ (fun _ W hS => (HDB.out W).mono fun e w' hh => ⟨hh.1, MarkS.below hS hh.2⟩)) ?_
        · (intro _; go_simp)
        try simp only [Act.put, puA, puB, puC]
        refine linp_step (i := 7) (d := some 42) (v := (.pointer (some ⟨B, 0, none⟩))) rfl rfl (by kernel_rfl) (by kernel_rfl) rfl rfl (ord_value (by kernel_rfl) ?_) ?_
        · ((intro _ _ _; go_simp) <;> kernel_rfl)
        try simp only [Act.put, puA, puB, puC]
        refine linp_step (i := 8) (d := some 43) (v := (.pointer (some ⟨B, 0, none⟩))) rfl rfl (by kernel_rfl) (by kernel_rfl) rfl rfl (ord_value (by kernel_rfl) ?_) ?_
        · ((intro _ _ _; go_simp) <;> kernel_rfl)
        try simp only [Act.put, puA, puB, puC]
        refine linp_step (i := 9) (d := some 44) (v := (.pointer (some ⟨B, 0, none⟩))) rfl rfl (by kernel_rfl) (by kernel_rfl) rfl rfl (ord_value (by kernel_rfl) ?_) ?_
        · ((intro _ _ _; go_simp) <;> kernel_rfl)
        try simp only [Act.put, puA, puB, puC]
        refine linp_step (i := 10) (d := some 45) (v := (.pointer (some ⟨B, 1, none⟩))) rfl rfl (by kernel_rfl) (by kernel_rfl) rfl rfl (ord_value (by kernel_rfl) ?_) ?_
        · ((intro _ _ _; go_simp) <;> kernel_rfl)
        try simp only [Act.put, puA, puB, puC]
        refine linp_step (i := 11) (d := some 46) (v := (.agg (planL n I).toArray)) rfl rfl (by kernel_rfl) (by kernel_rfl) rfl rfl (ord_mid loads_plan (by kernel_rfl) (.tmp 45) rfl rfl (fun _ W hS => MarkS.row hS)) ?_
        try simp only [Act.put, puA, puB, puC]
        refine linp_step (i := 12) (d := some 47) (v := (.int .i64 m)) rfl rfl (by kernel_rfl) (by kernel_rfl) rfl rfl (ord_value (by kernel_rfl) ?_) ?_
        · ((intro _ _ _; go_simp) <;> kernel_rfl)
        try simp only [Act.put, puA, puB, puC]
        refine linp_step (i := 13) (d := some 48) (v := (.int .i64 (m - Pl.dataN I))) rfl rfl (by kernel_rfl) (by kernel_rfl) rfl rfl (ord_call (f := 129) (args := #[.agg (planL n I).toArray, .int .i64 m]) (by kernel_rfl) ?_ (fun _ W hS => (HBI.out W).mono fun e w' hh => ⟨hh.1, MarkS.below hS hh.2⟩)) ?_
        · (intro _; go_simp)
        try simp only [Act.put, puA, puB, puC]
        refine linp_turn (i := 14) (d := some 49) (fun u k => u = .tuple #[] ∧ k = true) rfl rfl (by kernel_rfl) (by kernel_rfl) rfl (by kernel_rfl) ⟨_, _, rfl, rfl⟩ (by kernel_rfl) (gives_all (f := 46) (args := #[.pointer (some ⟨B, 0, none⟩), .int .i64 42, .int .i64 (m - Pl.dataN I), .bool false]) ?_ (fun W hS => (smark_step (Stp.ctx hS) 42 (m - Pl.dataN I) false HOK.out).mono fun e w' hE => by
          rcases Stp.bind hS hE with ⟨rfl, hR⟩ | ⟨_, s', L', _, rfl, S2⟩
          · exact Or.inr ⟨_, rfl, rfl, hR⟩
          · exact Or.inl ⟨_, rfl, true, ⟨rfl, rfl⟩, s', S2⟩)) ?_
        · (intro _; go_simp)
        rintro _ _ ⟨rfl, rfl⟩
        try simp only [Act.put, puA, puB, puC]
        refine linp_done (by kernel_rfl) fun W hS => ?_
        obtain ⟨s5, S5⟩ := MarkS.done hS
        clear S
        have S := Lib.hid S5
        clear S5 hS
        go_wp2_with fail
        exact S.out.done rfl
    · rw [if_neg c2] at S
      have HBI : Hid (∀ w, Calls Tryz.prog 129 #[.agg (planL n I).toArray, .int .i64 m] w fun e w' => e = .returned (.int .i64 (-1)) ∧ Below w.heap.size w w') := Lib.hid (fun w => bit_no n I m w h.vs.pl (by unfold Fs.isData at c2; omega))
      clear h H c2
      by_cases c3 : 0 < frm
      · rw [if_pos c3] at S
        go_enter Tryz.func92, Tryz.ntmps92
        go_wp2_with (first
          | (with_reducible refine wpList_load_plan (S.out.row).plan rfl (.tmp 16) rfl rfl ?_)
          | (go_at_call 129; refine (HBI.out _).mono ?_; rintro e w1 ⟨rfl, hb⟩; replace S := Lib.hid (S.out.below hb); clear hb))
        exact S.out.done rfl
      · rw [if_neg c3] at S
        go_enter Tryz.func92, Tryz.ntmps92
        go_wp2_with (first
          | (with_reducible refine wpList_load_plan (S.out.row).plan rfl (.tmp 16) rfl rfl ?_)
          | (go_at_call 129; refine (HBI.out _).mono ?_; rintro e w1 ⟨rfl, hb⟩; replace S := Lib.hid (S.out.below hb); clear hb))
        exact S.out.done rfl
theorem scut_2 {w : World} {B : Nat} {b : Blk} {s : Sto} {n I : Int} (h : Ctx w B b s n I) (m frm : Int) (h1 : -1000000 ≤ frm) (h2 : frm ≤ 1000000) : Calls Tryz.prog 92 #[.pointer (some ⟨B, 0, none⟩), .int .i64 m, .int .i64 1024, .int .i64 frm] w (Ends B b n I [] w s (Fs.cutM n I 2 m frm) fun y e _ => e = .returned (.int .i64 y)) := by
  refine calls_of fun R H => ?_
  have S := Lib.hid (Stp.start h (by simp) H)
  have HOK := Lib.hid (bits_ok h.vs).1
  have HDB : Hid (∀ w, Calls Tryz.prog 66 #[.agg (planL n I).toArray] w fun e w' => e = .returned (.int .i64 42) ∧ Below w.heap.size w w') := Lib.hid (fun w => by
    have := plDataBits_any n I w
    rw [if_pos h.vs.pl] at this
    exact this)
  have HCN : Hid (∀ W, Ctx W B b s n I → okP n m → Calls Tryz.prog 130 #[.pointer (some ⟨B, 0, none⟩), .int .i64 m, .int .i64 32, .int .i64 frm] W (Ends B b n I [] W s (Fs.cutNums (Fs.cutM n I 1) ((32 : Int) ^ 1) m frm) fun left e _ => e = .returned (.bool left))) := Lib.hid (fun W hc hm => scutNums_step (Fs.cutM n I 1) 32 (by decide) 1000000 (by decide) (fun W s' m frm hc q1 q2 => scut_1 hc m frm (by omega) q2) hc m frm hm ⟨h1, h2⟩)
  rw [show (2 : Nat) = 1 + 1 from rfl] at S
  rw [Fs.cutM] at S
  by_cases c1 : (32 : Int) ^ (1 + 1) ≤ frm
  · rw [if_pos c1] at S
    have c0 : (1024 : Int) ≤ frm := c1
    clear h H HCN c1
    go_enter Tryz.func92, Tryz.ntmps92
    go_wp2_with fail
    exact S.out.done rfl
  · rw [if_neg c1] at S
    have c0 : ¬ (1024 : Int) ≤ frm := c1
    clear c1
    by_cases c2 : Fs.isData n I m
    · rw [if_pos c2] at S
      have HBI : Hid (∀ w, Calls Tryz.prog 129 #[.agg (planL n I).toArray, .int .i64 m] w fun e w' => e = .returned (.int .i64 (m - Pl.dataN I)) ∧ Below w.heap.size w w') := Lib.hid (fun w => bit_yes n I m w h.vs.pl c2.1 c2.2)
      have g2 : decide (m - Pl.dataN I < 0) = false := decide_eq_false (by have := c2.1; omega)
      have HMO := Lib.hid (data_ok h.vs c2).1
      clear h H c2
      go_enter Tryz.func92, Tryz.ntmps92
      go_wp2_with (first
        | (with_reducible refine wpList_load_plan (S.out.row).plan rfl (.tmp 16) rfl rfl ?_)
        | (go_at_call 129; refine (HBI.out _).mono ?_; rintro e w1 ⟨rfl, hb⟩; replace S := Lib.hid (S.out.below hb); clear hb))
      refine (HCN.out _ S.out.ctx HMO.out).mono ?_
      intro e w8 hE
      rcases S.out.bind hE with ⟨rfl, hR⟩ | ⟨left, s, L6, _, rfl, S2⟩
      · exact ⟨rfl, hR⟩
      clear S hE
      have S := Lib.hid S2
      clear S2
      cases left with
      | true =>
        rw [if_pos rfl] at S
        go_wp2_with fail
        exact S.out.done rfl
      | false =>
        rw [if_neg (by decide)] at S
        go_wp2_with fail
        refine wp_region_linp (MarkS R B b n I w (fun (y : Int) e _ => e = .returned (.int .i64 y)) s (Fs.markM 42 (m - Pl.dataN I) false) (fun _ => Fs.ret (0 : Int))) (fun ch W => ch = [failE B] ∧ R (.panicked [failE B]) W) (fun i => i == 14) (fun i => [.pointer (some ⟨B, 0, none⟩), .pointer (some ⟨B, 0, none⟩), .pointer (some ⟨B, 0, none⟩), .pointer (some ⟨B, 0, none⟩), .pointer (some ⟨B, 1, none⟩), .agg (planL n I).toArray, .int .i64 42, .pointer (some ⟨B, 0, none⟩), .pointer (some ⟨B, 0, none⟩), .pointer (some ⟨B, 0, none⟩), .pointer (some ⟨B, 1, none⟩), .agg (planL n I).toArray, .int .i64 m, .int .i64 (m - Pl.dataN I)].getD i undef) false (by kernel_rfl) (by kernel_rfl) (fun ch a' W hd hh => ?_) S.out.drew ?_
        · exact ⟨hd, by obtain ⟨rfl, hR⟩ := hh; exact hR⟩
        refine linp_step (i := 0) (d := some 35) (v := (.pointer (some ⟨B, 0, none⟩))) rfl rfl (by kernel_rfl) (by kernel_rfl) rfl rfl (ord_value (by kernel_rfl) ?_) ?_
        · ((intro _ _ _; go_simp) <;> kernel_rfl)
        try simp only [Act.put, puA, puB, puC]
        refine linp_step (i := 1) (d := some 36) (v := (.pointer (some ⟨B, 0, none⟩))) rfl rfl (by kernel_rfl) (by kernel_rfl) rfl rfl (ord_value (by kernel_rfl) ?_) ?_
        · ((intro _ _ _; go_simp) <;> kernel_rfl)
        try simp only [Act.put, puA, puB, puC]
        refine linp_step (i := 2) (d := some 37) (v := (.pointer (some ⟨B, 0, none⟩))) rfl rfl (by kernel_rfl) (by kernel_rfl) rfl rfl (ord_value (by kernel_rfl) ?_) ?_
        · ((intro _ _ _; go_simp) <;> kernel_rfl)
        try simp only [Act.put, puA, puB, puC]
        refine linp_step (i := 3) (d := some 38) (v := (.pointer (some ⟨B, 0, none⟩))) rfl rfl (by kernel_rfl) (by kernel_rfl) rfl rfl (ord_value (by kernel_rfl) ?_) ?_
        · ((intro _ _ _; go_simp) <;> kernel_rfl)
        try simp only [Act.put, puA, puB, puC]
        refine linp_step (i := 4) (d := some 39) (v := (.pointer (some ⟨B, 1, none⟩))) rfl rfl (by kernel_rfl) (by kernel_rfl) rfl rfl (ord_value (by kernel_rfl) ?_) ?_
        · ((intro _ _ _; go_simp) <;> kernel_rfl)
        try simp only [Act.put, puA, puB, puC]
        refine linp_step (i := 5) (d := some 40) (v := (.agg (planL n I).toArray)) rfl rfl (by kernel_rfl) (by kernel_rfl) rfl rfl (ord_mid loads_plan (by kernel_rfl) (.tmp 39) rfl rfl (fun _ W hS => MarkS.row hS)) ?_
        try simp only [Act.put, puA, puB, puC]
        refine linp_step (i := 6) (d := some 41) (v := (.int .i64 42)) rfl rfl (by kernel_rfl) (by kernel_rfl) rfl rfl (ord_call (f := 66) (args := #[.agg (planL n I).toArray]) (by kernel_rfl) ?_ (fun _ W hS => (HDB.out W).mono fun e w' hh => ⟨hh.1, MarkS.below hS hh.2⟩)) ?_
        · (intro _; go_simp)
        try simp only [Act.put, puA, puB, puC]
        refine linp_step (i := 7) (d := some 42) (v := (.pointer (some ⟨B, 0, none⟩))) rfl rfl (by kernel_rfl) (by kernel_rfl) rfl rfl (ord_value (by kernel_rfl) ?_) ?_
        · ((intro _ _ _; go_simp) <;> kernel_rfl)
        try simp only [Act.put, puA, puB, puC]
        refine linp_step (i := 8) (d := some 43) (v := (.pointer (some ⟨B, 0, none⟩))) rfl rfl (by kernel_rfl) (by kernel_rfl) rfl rfl (ord_value (by kernel_rfl) ?_) ?_
        · ((intro _ _ _; go_simp) <;> kernel_rfl)
        try simp only [Act.put, puA, puB, puC]
        refine linp_step (i := 9) (d := some 44) (v := (.pointer (some ⟨B, 0, none⟩))) rfl rfl (by kernel_rfl) (by kernel_rfl) rfl rfl (ord_value (by kernel_rfl) ?_) ?_
        · ((intro _ _ _; go_simp) <;> kernel_rfl)
        try simp only [Act.put, puA, puB, puC]
        refine linp_step (i := 10) (d := some 45) (v := (.pointer (some ⟨B, 1, none⟩))) rfl rfl (by kernel_rfl) (by kernel_rfl) rfl rfl (ord_value (by kernel_rfl) ?_) ?_
        · ((intro _ _ _; go_simp) <;> kernel_rfl)
        try simp only [Act.put, puA, puB, puC]
        refine linp_step (i := 11) (d := some 46) (v := (.agg (planL n I).toArray)) rfl rfl (by kernel_rfl) (by kernel_rfl) rfl rfl (ord_mid loads_plan (by kernel_rfl) (.tmp 45) rfl rfl (fun _ W hS => MarkS.row hS)) ?_
        try simp only [Act.put, puA, puB, puC]
        refine linp_step (i := 12) (d := some 47) (v := (.int .i64 m)) rfl rfl (by kernel_rfl) (by kernel_rfl) rfl rfl (ord_value (by kernel_rfl) ?_) ?_
        · ((intro _ _ _; go_simp) <;> kernel_rfl)
        try simp only [Act.put, puA, puB, puC]
        refine linp_step (i := 13) (d := some 48) (v := (.int .i64 (m - Pl.dataN I))) rfl rfl (by kernel_rfl) (by kernel_rfl) rfl rfl (ord_call (f := 129) (args := #[.agg (planL n I).toArray, .int .i64 m]) (by kernel_rfl) ?_ (fun _ W hS => (HBI.out W).mono fun e w' hh => ⟨hh.1, MarkS.below hS hh.2⟩)) ?_
        · (intro _; go_simp)
        try simp only [Act.put, puA, puB, puC]
        refine linp_turn (i := 14) (d := some 49) (fun u k => u = .tuple #[] ∧ k = true) rfl rfl (by kernel_rfl) (by kernel_rfl) rfl (by kernel_rfl) ⟨_, _, rfl, rfl⟩ (by kernel_rfl) (gives_all (f := 46) (args := #[.pointer (some ⟨B, 0, none⟩), .int .i64 42, .int .i64 (m - Pl.dataN I), .bool false]) ?_ (fun W hS => (smark_step (Stp.ctx hS) 42 (m - Pl.dataN I) false HOK.out).mono fun e w' hE => by
          rcases Stp.bind hS hE with ⟨rfl, hR⟩ | ⟨_, s', L', _, rfl, S2⟩
          · exact Or.inr ⟨_, rfl, rfl, hR⟩
          · exact Or.inl ⟨_, rfl, true, ⟨rfl, rfl⟩, s', S2⟩)) ?_
        · (intro _; go_simp)
        rintro _ _ ⟨rfl, rfl⟩
        try simp only [Act.put, puA, puB, puC]
        refine linp_done (by kernel_rfl) fun W hS => ?_
        obtain ⟨s5, S5⟩ := MarkS.done hS
        clear S
        have S := Lib.hid S5
        clear S5 hS
        go_wp2_with fail
        exact S.out.done rfl
    · rw [if_neg c2] at S
      have HBI : Hid (∀ w, Calls Tryz.prog 129 #[.agg (planL n I).toArray, .int .i64 m] w fun e w' => e = .returned (.int .i64 (-1)) ∧ Below w.heap.size w w') := Lib.hid (fun w => bit_no n I m w h.vs.pl (by unfold Fs.isData at c2; omega))
      clear h H c2
      by_cases c3 : 0 < frm
      · rw [if_pos c3] at S
        go_enter Tryz.func92, Tryz.ntmps92
        go_wp2_with (first
          | (with_reducible refine wpList_load_plan (S.out.row).plan rfl (.tmp 16) rfl rfl ?_)
          | (go_at_call 129; refine (HBI.out _).mono ?_; rintro e w1 ⟨rfl, hb⟩; replace S := Lib.hid (S.out.below hb); clear hb))
        exact S.out.done rfl
      · rw [if_neg c3] at S
        go_enter Tryz.func92, Tryz.ntmps92
        go_wp2_with (first
          | (with_reducible refine wpList_load_plan (S.out.row).plan rfl (.tmp 16) rfl rfl ?_)
          | (go_at_call 129; refine (HBI.out _).mono ?_; rintro e w1 ⟨rfl, hb⟩; replace S := Lib.hid (S.out.below hb); clear hb))
        exact S.out.done rfl
end

section
open Go.RowKit Go.Maps
open Dk (zeros zeros_length)
open Ii (Ino)
theorem Stp.one {α : Type} {R : Ending → World → Prop} {B : Nat} {b : Blk} {n I : Int} {Ls : List Nat} {w0 w : World} {K : α → Ending → World → Prop} {l : List (Nat × List Value)} {s : Sto} {m : Fs.M α} (h : Stp R B b n I Ls w0 K l s m w) (k : Nat) (x : Nat × List Value) (hx : l[k]? = some x) (i : Nat) (v : Value) (us : List Value) (hi : i + 1 ≤ x.2.length) (hu : us = x.2.take i ++ [v] ++ x.2.drop (i + 1)) : Stp R B b n I Ls w0 K (l.set k (x.1, us)) s m (w.setCell ⟨x.1, i, none⟩ v) := by
  obtain ⟨h1, h2⟩ := h.lower (List.mem_of_getElem? hx)
  refine ⟨h.lo.putAt k x hx i [v] us hi hu, h.ctx.only ((Only.refl [x.1] w).setCell (p := ⟨x.1, i, none⟩) (by simp) v) ?_ ?_, h.low, h.left⟩
  · simp; exact fun q => h1 q.symm
  · intro j hj q
    simp at q
    subst q
    exact h2 hj
namespace Fs
def cf4 (n I frm : Int) (y : Ino) : M Ino := andThen (cutM n I 1 y.e (frm - 4)) fun e => andThen (cutM n I 2 y.f (frm - 36)) fun f => ret { y with e := e, f := f }
def cf3 (n I frm : Int) (y : Ino) : M Ino := andThen (cutM n I 0 y.d (frm - 3)) fun d => cf4 n I frm { y with d := d }
def cf2 (n I frm : Int) (y : Ino) : M Ino := andThen (cutM n I 0 y.c (frm - 2)) fun c => cf3 n I frm { y with c := c }
def cf1 (n I frm : Int) (y : Ino) : M Ino := andThen (cutM n I 0 y.b (frm - 1)) fun b => cf2 n I frm { y with b := b }
def cf0 (n I frm : Int) (y : Ino) : M Ino := andThen (cutM n I 0 y.a frm) fun a => cf1 n I frm { y with a := a }
theorem cf_is (n I frm : Int) (x : Ino) : cutFile n I x frm = cf0 n I frm x := rfl
def cf (n I frm : Int) : Nat → Ino → M Ino
  | 0 => cf0 n I frm
  | 1 => cf1 n I frm
  | 2 => cf2 n I frm
  | 3 => cf3 n I frm
  | _ => cf4 n I frm
end Fs
theorem scutFile_step {w : World} {B : Nat} {b : Blk} {s : Sto} {n I : Int} (h : Ctx w B b s n I) (x : Ino) (frm : Int) (hf : 0 ≤ frm ∧ frm ≤ 100000) : Calls Tryz.prog 50 #[.pointer (some ⟨B, 0, none⟩), inoV x, .int .i64 frm] w (Ends B b n I [] w s (Fs.cutFile n I x frm) fun y e _ => e = .returned (inoV y)) := by
  refine calls_of fun R H => ?_
  have S0 := Lib.hid (Stp.start h (by simp) H)
  rw [Fs.cf_is] at S0
  clear h H
  unfold inoV
  go_enter Tryz.func50, Tryz.ntmps50
  go_wp2_with fail
  generalize hw : World.alloc _ _ = w1
  have S : Hid (Stp R B b n I [] w (fun (y : Ino) e _ => e = .returned (inoV y)) [(w.heap.size, inoL x), (w.heap.size + 1, inoL Ii.zero)] s (Fs.cf0 n I frm x) w1) := Lib.hid (by
    rw [← hw]
    exact (S0.out.alloc w.heap.size rfl (inoL x) _).alloc (w.heap.size + 1) (by simp) (inoL Ii.zero) _)
  clear hw S0
  go_loopw [11] (fun i wr => ∃ (k : Nat) (y : Ino) (s3 : Sto), k ≤ 4 ∧ i = .int .i64 k ∧ Hid (Stp R B b n I [] w (fun (y : Ino) e _ => e = .returned (inoV y)) [(w.heap.size, inoL y), (w.heap.size + 1, inoL Ii.zero)] s3 (Fs.cf n I frm k y) wr) ∧ ((k < 1 → y.a = x.a) ∧ (k < 2 → y.b = x.b) ∧ (k < 3 → y.c = x.c) ∧ (k < 4 → y.d = x.d))) (fun i _ => 4 - (intOf i).toNat)
  case atStart => exact ⟨0, x, s, by omega, rfl, S, ⟨fun _ => rfl, fun _ => rfl, fun _ => rfl, fun _ => rfl⟩⟩
  case round =>
    clear S
    obtain ⟨k, y, s3, hk, rfl, S, hy⟩ := hrel
    have hk : k = 0 ∨ k = 1 ∨ k = 2 ∨ k = 3 ∨ k = 4 := by omega
    rcases hk with rfl | rfl | rfl | rfl | rfl
    · have S1 : Hid (Stp R B b n I [] w (fun (y : Ino) e _ => e = .returned (inoV y)) [(w.heap.size, inoL y), (w.heap.size + 1, inoL Ii.zero)] s3 (Fs.andThen (Fs.cutM n I 0 x.a (frm)) fun a => Fs.cf n I frm 1 { y with a := a }) wr) := Lib.hid (by rw [← hy.1 (by omega)]; exact S.out)
      have ix := fun w => index_four0 x w
      clear S
      go_wp2_with (go_at_call 92; (with_reducible refine (scut_0 S1.out.ctx x.a (frm)).mono ?_); intro e w4 hE; rcases S1.out.bind hE with ⟨rfl, hR⟩ | ⟨v, s4, L4, _, rfl, S2⟩; (exact ⟨rfl, hR⟩); have S4 := Lib.hid S2; clear S2 hE; have cc := (S4.out.get 0 _ rfl).cell 5 _ rfl; have ff := (S4.out.get 0 _ rfl).frozen 5 (show 5 < 11 by decide))
      have S5 := Lib.hid (S4.out.one 0 _ rfl 5 (.int .i64 v) (inoL { y with a := v }) (show 5 + 1 ≤ 11 by decide) rfl)
      clear S4 S1 cc ff
      go_roundw
      case rel => exact ⟨1, _, s4, by omega, rfl, S5, ⟨fun q => by omega, fun q => hy.2.1 (by omega), fun q => hy.2.2.1 (by omega), fun q => hy.2.2.2 (by omega)⟩⟩
      case measure => simp [intOf]
    · have S1 : Hid (Stp R B b n I [] w (fun (y : Ino) e _ => e = .returned (inoV y)) [(w.heap.size, inoL y), (w.heap.size + 1, inoL Ii.zero)] s3 (Fs.andThen (Fs.cutM n I 0 x.b (frm - 1)) fun a => Fs.cf n I frm 2 { y with b := a }) wr) := Lib.hid (by rw [← hy.2.1 (by omega)]; exact S.out)
      have ix := fun w => index_four1 x w
      clear S
      go_wp2_with (go_at_call 92; (with_reducible refine (scut_0 S1.out.ctx x.b (frm - 1)).mono ?_); intro e w4 hE; rcases S1.out.bind hE with ⟨rfl, hR⟩ | ⟨v, s4, L4, _, rfl, S2⟩; (exact ⟨rfl, hR⟩); have S4 := Lib.hid S2; clear S2 hE; have cc := (S4.out.get 0 _ rfl).cell 6 _ rfl; have ff := (S4.out.get 0 _ rfl).frozen 6 (show 6 < 11 by decide))
      have S5 := Lib.hid (S4.out.one 0 _ rfl 6 (.int .i64 v) (inoL { y with b := v }) (show 6 + 1 ≤ 11 by decide) rfl)
      clear S4 S1 cc ff
      go_roundw
      case rel => exact ⟨2, _, s4, by omega, rfl, S5, ⟨fun q => by omega, fun q => by omega, fun q => hy.2.2.1 (by omega), fun q => hy.2.2.2 (by omega)⟩⟩
      case measure => simp [intOf]
    · have S1 : Hid (Stp R B b n I [] w (fun (y : Ino) e _ => e = .returned (inoV y)) [(w.heap.size, inoL y), (w.heap.size + 1, inoL Ii.zero)] s3 (Fs.andThen (Fs.cutM n I 0 x.c (frm - 2)) fun a => Fs.cf n I frm 3 { y with c := a }) wr) := Lib.hid (by rw [← hy.2.2.1 (by omega)]; exact S.out)
      have ix := fun w => index_four2 x w
      clear S
      go_wp2_with (go_at_call 92; (with_reducible refine (scut_0 S1.out.ctx x.c (frm - 2)).mono ?_); intro e w4 hE; rcases S1.out.bind hE with ⟨rfl, hR⟩ | ⟨v, s4, L4, _, rfl, S2⟩; (exact ⟨rfl, hR⟩); have S4 := Lib.hid S2; clear S2 hE; have cc := (S4.out.get 0 _ rfl).cell 7 _ rfl; have ff := (S4.out.get 0 _ rfl).frozen 7 (show 7 < 11 by decide))
      have S5 := Lib.hid (S4.out.one 0 _ rfl 7 (.int .i64 v) (inoL { y with c := v }) (show 7 + 1 ≤ 11 by decide) rfl)
      clear S4 S1 cc ff
      go_roundw
      case rel => exact ⟨3, _, s4, by omega, rfl, S5, ⟨fun q => by omega, fun q => by omega, fun q => by omega, fun q => hy.2.2.2 (by omega)⟩⟩
      case measure => simp [intOf]
    · have S1 : Hid (Stp R B b n I [] w (fun (y : Ino) e _ => e = .returned (inoV y)) [(w.heap.size, inoL y), (w.heap.size + 1, inoL Ii.zero)] s3 (Fs.andThen (Fs.cutM n I 0 x.d (frm - 3)) fun a => Fs.cf n I frm 4 { y with d := a }) wr) := Lib.hid (by rw [← hy.2.2.2 (by omega)]; exact S.out)
      have ix := fun w => index_four3 x w
      clear S
      go_wp2_with (go_at_call 92; (with_reducible refine (scut_0 S1.out.ctx x.d (frm - 3)).mono ?_); intro e w4 hE; rcases S1.out.bind hE with ⟨rfl, hR⟩ | ⟨v, s4, L4, _, rfl, S2⟩; (exact ⟨rfl, hR⟩); have S4 := Lib.hid S2; clear S2 hE; have cc := (S4.out.get 0 _ rfl).cell 8 _ rfl; have ff := (S4.out.get 0 _ rfl).frozen 8 (show 8 < 11 by decide))
      have S5 := Lib.hid (S4.out.one 0 _ rfl 8 (.int .i64 v) (inoL { y with d := v }) (show 8 + 1 ≤ 11 by decide) rfl)
      clear S4 S1 cc ff
      go_roundw
      case rel => exact ⟨4, _, s4, by omega, rfl, S5, ⟨fun q => by omega, fun q => by omega, fun q => by omega, fun q => by omega⟩⟩
      case measure => simp [intOf]
    · have S1 : Hid (Stp R B b n I [] w (fun (y : Ino) e _ => e = .returned (inoV y)) [(w.heap.size, inoL y), (w.heap.size + 1, inoL Ii.zero)] s3 (Fs.cf4 n I frm y) wr) := Lib.hid S.out
      clear S hy
      have c9 := (S1.out.get 0 _ rfl).cell 9 _ rfl
      have HE6 : Hid (frm - 36 = frm - 4 - 32) := Lib.hid (by omega)
      go_wp2_with fail
      refine (scut_1 S1.out.ctx y.e (frm - 4) (by omega) (by omega)).mono ?_
      intro e w4 hE
      rcases S1.out.bind hE with ⟨rfl, hR⟩ | ⟨v, s4, L4, _, rfl, S2⟩
      · exact ⟨rfl, hR⟩
      rw [HE6.out] at S2
      have S4 := Lib.hid S2
      clear S1 S2 hE c9 HE6
      have cc := (S4.out.get 0 _ rfl).cell 9 _ rfl
      have ff := (S4.out.get 0 _ rfl).frozen 9 (show 9 < 11 by decide)
      have S5 := Lib.hid (S4.out.one 0 _ rfl 9 (.int .i64 v) (inoL { y with e := v }) (show 9 + 1 ≤ 11 by decide) rfl)
      have c10 := (S5.out.get 0 _ rfl).cell 10 _ rfl
      clear S4
      go_wp2_with fail
      refine (scut_2 S5.out.ctx y.f (frm - 4 - 32) (by omega) (by omega)).mono ?_
      intro e w6 hE
      rcases S5.out.bind hE with ⟨rfl, hR⟩ | ⟨v2, s6, L6, _, rfl, S2⟩
      · exact ⟨rfl, hR⟩
      have S6 := Lib.hid S2
      clear S5 S2 hE c10 cc ff
      have cc := (S6.out.get 0 _ rfl).cell 10 _ rfl
      have ff := (S6.out.get 0 _ rfl).frozen 10 (show 10 < 11 by decide)
      have S7 : Hid (Stp R B b n I [] w (fun (y : Ino) e _ => e = .returned (inoV y)) [(w.heap.size, inoL { y with e := v, f := v2 }), (w.heap.size + 1, inoL Ii.zero)] s6 (Fs.ret { y with e := v, f := v2 }) (w6.setCell ⟨w.heap.size, 10, none⟩ (.int .i64 v2))) := Lib.hid (S6.out.one 0 _ rfl 10 (.int .i64 v2) (inoL { y with e := v, f := v2 }) (show 10 + 1 ≤ 11 by decide) rfl)
      clear S6
      generalize { y with e := v, f := v2 } = z at S7
      go_wp2_with (first
        | (with_reducible refine wpList_load_rw inoT (S7.out.get 0 _ rfl) rfl rfl (.tmp 4) rfl rfl ?_)
        | ((with_reducible refine wpList_store_rw (vs := inoL z) inoT (S7.out.get 1 _ rfl) ?_ ?_ (inoL_one _) rfl (.tmp 6) (.tmp 40) rfl ?_ ?_ ?_); (exact rfl); (exact rfl); (exact rfl); (exact rfl)))
      have S8 := Lib.hid (S7.out.put 1 _ rfl (inoL z) rfl)
      exact bodyPost_ret (results_row1 inoT _ 6 rfl _ (S8.out.get 1 _ rfl) rfl rfl) rfl (S8.out.done rfl)
end

section
open Go.RowKit Go.Maps
open Dk (zeros zeros_length)
open Ii (Ino)
section
variable {α : Type} {R : Ending → World → Prop} {B : Nat} {b : Blk} {n I : Int} {Ls : List Nat} {w0 w : World} {K : α → Ending → World → Prop} {l : List (Nat × List Value)} {s : Sto} {m : Fs.M α}
theorem Stp.part (h : Stp R B b n I Ls w0 K l s m w) (k : Nat) (x : Nat × List Value) (hx : l[k]? = some x) (o : Nat) (vs us : List Value) (ho : o + vs.length ≤ x.2.length) (hu : us = x.2.take o ++ vs ++ x.2.drop (o + vs.length)) : Stp R B b n I Ls w0 K (l.set k (x.1, us)) s m (w.setCells x.1 o vs) := by
  obtain ⟨h1, h2⟩ := h.lower (List.mem_of_getElem? hx)
  refine ⟨h.lo.putAt k x hx o vs us ho hu, h.ctx.only ((Only.refl [x.1] w).setCells x.1 (by simp) vs o w) ?_ ?_, h.low, h.left⟩
  · simp; exact fun q => h1 q.symm
  · intro j hj q
    simp at q
    subst q
    exact h2 hj
end
def blankP (p : List UInt8) (k : Nat) : List UInt8 := p.take k ++ List.replicate (64 - k) 0
theorem blankP_length (p : List UInt8) (k : Nat) (hp : p.length = 64) (hk : k ≤ 64) : (blankP p k).length = 64 := by
  unfold blankP; simp; omega
theorem byteVals_zero (c : Nat) : byteVals (List.replicate c 0) = List.replicate c (.int .u8 0) := by
  unfold byteVals
  rw [List.map_replicate]; rfl
theorem blank_vals (p : List UInt8) (k : Nat) (hp : p.length = 64) (hk : k ≤ 64) : byteVals (blankP p k) = (byteVals p).take k ++ List.replicate (64 - k) (.int .u8 0) ++ (byteVals p).drop (k + (List.replicate (64 - k) (Value.int .u8 0)).length) := by
  rw [List.drop_of_length_le (by rw [byteVals_length, hp, List.length_replicate]; omega), List.append_nil, ← byteVals_zero]
  unfold blankP byteVals
  rw [List.map_append, List.map_take]
theorem clear_page {w : World} {b k : Nat} {p : List UInt8} (hp : PageAt w b p) (hk : k < 64) (ty : TypeId) (c : Nat) :
    (Builtin.clear_ #[48] ty #[.slice (some ⟨b, k, none⟩) (64 - k) c]).run Tryz.prog w = .ok (.tuple #[]) (w.setCells b k (List.replicate (64 - k) (.int .u8 0))) :=
  Lib.run_clear_slice w _ _ ty (.int .u8 0) Tryz.underlying48 zero8 rfl rfl b k (64 - k) c (by omega) (fun j hj => hp.isSome (k + j) (by omega)) (fun j hj => hp.frozen (k + j) (by omega))
theorem wpList_clear_page {ops : Array Oper} {rest : List Oper} {op : Oper} {a : Act} {Q : Exit → Act → World → Prop} {W : World} {b k : Nat} {p : List UInt8} (hp : PageAt W b p) (hk : k < 64) (n : Nat) (hgd : op.guard = none) (v : Operand) (c : Call) (ho : op.op = .call c) (hc : c.callee = .builtin .clear) (ha : c.args = #[v]) (ht : c.argTypes = #[48])
    (hv : a.eval v = .slice (some ⟨b, k, none⟩) (64 - k) n) (h : wpList Tryz.prog ops Q rest (a.put op.dst (.tuple #[])) (W.setCells b k (List.replicate (64 - k) (.int .u8 0)))) : wpList Tryz.prog ops Q (op :: rest) a W :=
  wpList_plain hgd fun _ hK => by
    have h2 := fun ty => clear_page hp hk ty n
    unfold Oper.wp
    have hr : (execOp a.eval op).run Tryz.prog W = .ok (.value (.tuple #[])) (W.setCells b k (List.replicate (64 - k) (.int .u8 0))) := by
      unfold execOp
      simp [ho, resolve, hc, ha, ht, hv, Go.invoke, Go.builtin, h2]
    rw [hr]
    exact hK _ _ h
theorem sblank_step {w : World} {B : Nat} {b : Blk} {s : Sto} {n I : Int} (h : Ctx w B b s n I) (x : Ino) (sz : Nat) (hs : sz ≤ 67840) : Calls Tryz.prog 57 #[.pointer (some ⟨B, 0, none⟩), inoV x, .int .i64 (sz : Int)] w (Ends B b n I [] w s (Fs.blankM n I x (sz : Int)) fun _ e _ => e = .returned (.tuple #[])) := by
  refine calls_of fun R H => ?_
  have S := Lib.hid (Stp.start h (by simp) H)
  unfold Fs.blankM at S
  have er : (sz : Int) % 64 = ((sz % 64 : Nat) : Int) := by omega
  have HK : Hid (sz % 64 < 64) := Lib.hid (Nat.mod_lt _ (by decide))
  by_cases c0 : (sz : Int) % 64 = 0
  · rw [if_pos c0] at S
    have c0n : sz % 64 = 0 := by omega
    clear h H c0
    unfold inoV
    go_enter Tryz.func57, Tryz.ntmps57
    go_wp2_with fail
    refine bodyPost_ret (results_none rfl _ _ _) rfl ?_
    exact (S.out.below (below_alloc _ _)).done rfl
  · rw [if_neg c0] at S
    have HSL : Hid (∀ (W : World) (b' : Nat), (Instr.sliceAt 68 (.pointer (some ⟨b', 0, none⟩)) (some (.int .i64 ((sz : Int) % 64))) none none).run Tryz.prog W = .ok (.slice (some ⟨b', sz % 64, none⟩) (64 - sz % 64) (64 - sz % 64)) W) := Lib.hid (fun W b' => by rw [er]; exact run_slice_page_from W b' (sz % 64) HK.out)
    have hkt : ((sz : Int) % 64).toNat = sz % 64 := by omega
    rw [hkt] at S
    have g0 : ((sz : Int) % 64 == 0) = false := by simpa using c0
    have HF : Hid (∀ W, Ctx W B b s n I → Calls Tryz.prog 99 #[.agg (baseL b.s n I).toArray, .agg (inoL x).toArray, .int .i64 ((sz : Int) / 64)] W fun e w' => e = .returned (exV (fun m => .int .i64 m) (.int .i64 0) (Fs.findF n I x ((sz : Int) / 64) (nv s))) ∧ Below W.heap.size W w') := Lib.hid (fun W hc => bfind_any hc.store hc.vs x ((sz : Int) / 64))
    clear h H c0 hkt er
    cases hf : Fs.findF n I x ((sz : Int) / 64) (nv s) with
    | error er =>
      obtain rfl := find_err hf
      have HFL : Hid (∀ f : Int → Fs.M Unit, Fs.andThen (Fs.tell (Fs.findF n I x ((sz : Int) / 64))) f (nv s) = (.error 5, nv s, [])) := Lib.hid (fun f => by unfold Fs.andThen Fs.tell; rw [hf])
      rw [hf] at HF
      simp only [exV] at HF
      clear hf
      unfold inoV
      go_enter Tryz.func57, Tryz.ntmps57
      go_wp2_with fail
      generalize hw : World.alloc _ _ = w1
      replace S : Hid (Stp R B b n I [] w (fun _ e _ => e = .returned (.tuple #[])) [(w.heap.size, inoL x)] s (Fs.andThen (Fs.tell (Fs.findF n I x ((sz : Int) / 64))) fun m => Fs.andThen (Fs.tell (Fs.dataF n I m)) fun was => if was.take (sz % 64) ++ List.replicate (64 - sz % 64) 0 = was then Fs.ret () else Fs.wr m.toNat (was.take (sz % 64) ++ List.replicate (64 - sz % 64) 0)) w1) := Lib.hid (by
        rw [← hw]
        exact S.out.alloc w.heap.size rfl (inoL x) _)
      clear hw
      refine wp_region_linp (fun (_ : Unit) W => Stp R B b n I [] w (fun _ e _ => e = .returned (.tuple #[])) [(w.heap.size, inoL x)] s (Fs.andThen (Fs.tell (Fs.findF n I x ((sz : Int) / 64))) fun m => Fs.andThen (Fs.tell (Fs.dataF n I m)) fun was => if was.take (sz % 64) ++ List.replicate (64 - sz % 64) 0 = was then Fs.ret () else Fs.wr m.toNat (was.take (sz % 64) ++ List.replicate (64 - sz % 64) 0)) W) (fun _ _ => False) (fun _ => false) (fun i => [.pointer (some ⟨B, 0, none⟩), .pointer (some ⟨B, 0, none⟩), .pointer (some ⟨B, 0, none⟩), .agg (baseL b.s n I).toArray, .agg (inoL x).toArray, .int .i64 (sz : Int), .int .i64 ((sz : Int) / 64), .tuple #[.int .i64 0, .int .i64 5], .tuple #[.int .i64 0, .int .i64 5], .int .i64 0, .int .i64 5, .int .i64 0, .int .i64 5].getD i undef) () (by kernel_rfl) (by kernel_rfl) (fun _ _ _ _ h => h.elim) S.out.drew ?_
      refine linp_step (i := 0) (d := some 16) (v := (.pointer (some ⟨B, 0, none⟩))) rfl rfl (by kernel_rfl) (by kernel_rfl) rfl rfl (ord_value (by kernel_rfl) ?_) ?_
      · ((intro _ _ _; go_simp) <;> kernel_rfl)
      try simp only [Act.put, puA, puB, puC]
      refine linp_step (i := 1) (d := some 17) (v := (.pointer (some ⟨B, 0, none⟩))) rfl rfl (by kernel_rfl) (by kernel_rfl) rfl rfl (ord_value (by kernel_rfl) ?_) ?_
      · ((intro _ _ _; go_simp) <;> kernel_rfl)
      try simp only [Act.put, puA, puB, puC]
      refine linp_step (i := 2) (d := some 18) (v := (.pointer (some ⟨B, 0, none⟩))) rfl rfl (by kernel_rfl) (by kernel_rfl) rfl rfl (ord_value (by kernel_rfl) ?_) ?_
      · ((intro _ _ _; go_simp) <;> kernel_rfl)
      try simp only [Act.put, puA, puB, puC]
      refine linp_step (i := 3) (d := some 19) (v := (.agg (baseL b.s n I).toArray)) rfl rfl (by kernel_rfl) (by kernel_rfl) rfl rfl (ord_mid loads_base (by kernel_rfl) (.tmp 18) rfl rfl (fun _ W hS => hS.row.base)) ?_
      try simp only [Act.put, puA, puB, puC]
      refine linp_step (i := 4) (d := some 20) (v := (.agg (inoL x).toArray)) rfl rfl (by kernel_rfl) (by kernel_rfl) rfl rfl (ord_mid loads_ino (by kernel_rfl) (.tmp 4) rfl rfl (fun _ W hS => (hS.get 0 _ rfl).range)) ?_
      try simp only [Act.put, puA, puB, puC]
      refine linp_step (i := 5) (d := some 21) (v := (.int .i64 (sz : Int))) rfl rfl (by kernel_rfl) (by kernel_rfl) rfl rfl (ord_value (by kernel_rfl) ?_) ?_
      · ((intro _ _ _; go_simp) <;> kernel_rfl)
      try simp only [Act.put, puA, puB, puC]
      refine linp_step (i := 6) (d := some 22) (v := .int .i64 ((sz : Int) / 64)) rfl rfl (by kernel_rfl) (by kernel_rfl) rfl rfl (ord_value (by kernel_rfl) ?_) ?_
      · intro _ _ _
        go_simp
        exact IntWalk.i64_in _ (by omega)
      try simp only [Act.put, puA, puB, puC]
      refine linp_step (i := 7) (d := some 23) (v := (.tuple #[.int .i64 0, .int .i64 5])) rfl rfl (by kernel_rfl) (by kernel_rfl) rfl rfl (ord_call (f := 99) (args := #[.agg (baseL b.s n I).toArray, .agg (inoL x).toArray, .int .i64 ((sz : Int) / 64)]) (by kernel_rfl) ?_ (fun _ W hS => (HF.out W hS.ctx).mono fun e w' hh => ⟨hh.1, hS.below hh.2⟩)) ?_
      · (intro _; go_simp)
      try simp only [Act.put, puA, puB, puC]
      refine linp_step (i := 8) (d := some 15) (v := (.tuple #[.int .i64 0, .int .i64 5])) rfl rfl (by kernel_rfl) (by kernel_rfl) rfl rfl (ord_value (by kernel_rfl) ?_) ?_
      · ((intro _ _ _; go_simp) <;> kernel_rfl)
      try simp only [Act.put, puA, puB, puC]
      refine linp_step (i := 9) (d := some 24) (v := (.int .i64 0)) rfl rfl (by kernel_rfl) (by kernel_rfl) rfl rfl (ord_value (by kernel_rfl) ?_) ?_
      · ((intro _ _ _; go_simp) <;> kernel_rfl)
      try simp only [Act.put, puA, puB, puC]
      refine linp_step (i := 10) (d := some 25) (v := (.int .i64 5)) rfl rfl (by kernel_rfl) (by kernel_rfl) rfl rfl (ord_value (by kernel_rfl) ?_) ?_
      · ((intro _ _ _; go_simp) <;> kernel_rfl)
      try simp only [Act.put, puA, puB, puC]
      refine linp_step (i := 11) (d := some 7) (v := (.int .i64 0)) rfl rfl (by kernel_rfl) (by kernel_rfl) rfl rfl (ord_value (by kernel_rfl) ?_) ?_
      · ((intro _ _ _; go_simp) <;> kernel_rfl)
      try simp only [Act.put, puA, puB, puC]
      refine linp_step (i := 12) (d := some 8) (v := (.int .i64 5)) rfl rfl (by kernel_rfl) (by kernel_rfl) rfl rfl (ord_value (by kernel_rfl) ?_) ?_
      · ((intro _ _ _; go_simp) <;> kernel_rfl)
      try simp only [Act.put, puA, puB, puC]
      refine linp_done (by kernel_rfl) fun W hS => ?_
      have S1 := Lib.hid hS
      clear hS S HF
      go_wp2_with (go_at_call 85; (with_reducible refine (must_no S1.out.ctx 5 (by decide)).mono ?_); rintro e w3 ⟨rfl, hB, hO⟩)
      exact ⟨rfl, S1.out.fails (Fails.err (HFL.out _)) (by decide) hB hO⟩
    | ok m =>
      replace S := Lib.hid (S.out.told hf)
      rw [hf] at HF
      simp only [exV] at HF
      clear hf
      unfold inoV
      go_enter Tryz.func57, Tryz.ntmps57
      go_wp2_with fail
      generalize hw : World.alloc _ _ = w1
      replace S : Hid (Stp R B b n I [] w (fun _ e _ => e = .returned (.tuple #[])) [(w.heap.size, inoL x)] s (Fs.andThen (Fs.tell (Fs.dataF n I m)) fun was => if was.take (sz % 64) ++ List.replicate (64 - sz % 64) 0 = was then Fs.ret () else Fs.wr m.toNat (was.take (sz % 64) ++ List.replicate (64 - sz % 64) 0)) w1) := Lib.hid (by
        rw [← hw]
        exact S.out.alloc w.heap.size rfl (inoL x) _)
      clear hw
      refine wp_region_linp (fun (_ : Unit) W => Stp R B b n I [] w (fun _ e _ => e = .returned (.tuple #[])) [(w.heap.size, inoL x)] s (Fs.andThen (Fs.tell (Fs.dataF n I m)) fun was => if was.take (sz % 64) ++ List.replicate (64 - sz % 64) 0 = was then Fs.ret () else Fs.wr m.toNat (was.take (sz % 64) ++ List.replicate (64 - sz % 64) 0)) W) (fun _ _ => False) (fun _ => false) (fun i => [.pointer (some ⟨B, 0, none⟩), .pointer (some ⟨B, 0, none⟩), .pointer (some ⟨B, 0, none⟩), .agg (baseL b.s n I).toArray, .agg (inoL x).toArray, .int .i64 (sz : Int), .int .i64 ((sz : Int) / 64), .tuple #[.int .i64 m, .int .i64 0], .tuple #[.int .i64 m, .int .i64 0], .int .i64 m, .int .i64 0, .int .i64 m, .int .i64 0].getD i undef) () (by kernel_rfl) (by kernel_rfl) (fun _ _ _ _ h => h.elim) S.out.drew ?_
      refine linp_step (i := 0) (d := some 16) (v := (.pointer (some ⟨B, 0, none⟩))) rfl rfl (by kernel_rfl) (by kernel_rfl) rfl rfl (ord_value (by kernel_rfl) ?_) ?_
      · ((intro _ _ _; go_simp) <;> kernel_rfl)
      try simp only [Act.put, puA, puB, puC]
      refine linp_step (i := 1) (d := some 17) (v := (.pointer (some ⟨B, 0, none⟩))) rfl rfl (by kernel_rfl) (by kernel_rfl) rfl rfl (ord_value (by kernel_rfl) ?_) ?_
      · ((intro _ _ _; go_simp) <;> kernel_rfl)
      try simp only [Act.put, puA, puB, puC]
      refine linp_step (i := 2) (d := some 18) (v := (.pointer (some ⟨B, 0, none⟩))) rfl rfl (by kernel_rfl) (by kernel_rfl) rfl rfl (ord_value (by kernel_rfl) ?_) ?_
      · ((intro _ _ _; go_simp) <;> kernel_rfl)
      try simp only [Act.put, puA, puB, puC]
      refine linp_step (i := 3) (d := some 19) (v := (.agg (baseL b.s n I).toArray)) rfl rfl (by kernel_rfl) (by kernel_rfl) rfl rfl (ord_mid loads_base (by kernel_rfl) (.tmp 18) rfl rfl (fun _ W hS => hS.row.base)) ?_
      try simp only [Act.put, puA, puB, puC]
      refine linp_step (i := 4) (d := some 20) (v := (.agg (inoL x).toArray)) rfl rfl (by kernel_rfl) (by kernel_rfl) rfl rfl (ord_mid loads_ino (by kernel_rfl) (.tmp 4) rfl rfl (fun _ W hS => (hS.get 0 _ rfl).range)) ?_
      try simp only [Act.put, puA, puB, puC]
      refine linp_step (i := 5) (d := some 21) (v := (.int .i64 (sz : Int))) rfl rfl (by kernel_rfl) (by kernel_rfl) rfl rfl (ord_value (by kernel_rfl) ?_) ?_
      · ((intro _ _ _; go_simp) <;> kernel_rfl)
      try simp only [Act.put, puA, puB, puC]
      refine linp_step (i := 6) (d := some 22) (v := .int .i64 ((sz : Int) / 64)) rfl rfl (by kernel_rfl) (by kernel_rfl) rfl rfl (ord_value (by kernel_rfl) ?_) ?_
      · intro _ _ _
        go_simp
        exact IntWalk.i64_in _ (by omega)
      try simp only [Act.put, puA, puB, puC]
      refine linp_step (i := 7) (d := some 23) (v := (.tuple #[.int .i64 m, .int .i64 0])) rfl rfl (by kernel_rfl) (by kernel_rfl) rfl rfl (ord_call (f := 99) (args := #[.agg (baseL b.s n I).toArray, .agg (inoL x).toArray, .int .i64 ((sz : Int) / 64)]) (by kernel_rfl) ?_ (fun _ W hS => (HF.out W hS.ctx).mono fun e w' hh => ⟨hh.1, hS.below hh.2⟩)) ?_
      · (intro _; go_simp)
      try simp only [Act.put, puA, puB, puC]
      refine linp_step (i := 8) (d := some 15) (v := (.tuple #[.int .i64 m, .int .i64 0])) rfl rfl (by kernel_rfl) (by kernel_rfl) rfl rfl (ord_value (by kernel_rfl) ?_) ?_
      · ((intro _ _ _; go_simp) <;> kernel_rfl)
      try simp only [Act.put, puA, puB, puC]
      refine linp_step (i := 9) (d := some 24) (v := (.int .i64 m)) rfl rfl (by kernel_rfl) (by kernel_rfl) rfl rfl (ord_value (by kernel_rfl) ?_) ?_
      · ((intro _ _ _; go_simp) <;> kernel_rfl)
      try simp only [Act.put, puA, puB, puC]
      refine linp_step (i := 10) (d := some 25) (v := (.int .i64 0)) rfl rfl (by kernel_rfl) (by kernel_rfl) rfl rfl (ord_value (by kernel_rfl) ?_) ?_
      · ((intro _ _ _; go_simp) <;> kernel_rfl)
      try simp only [Act.put, puA, puB, puC]
      refine linp_step (i := 11) (d := some 7) (v := (.int .i64 m)) rfl rfl (by kernel_rfl) (by kernel_rfl) rfl rfl (ord_value (by kernel_rfl) ?_) ?_
      · ((intro _ _ _; go_simp) <;> kernel_rfl)
      try simp only [Act.put, puA, puB, puC]
      refine linp_step (i := 12) (d := some 8) (v := (.int .i64 0)) rfl rfl (by kernel_rfl) (by kernel_rfl) rfl rfl (ord_value (by kernel_rfl) ?_) ?_
      · ((intro _ _ _; go_simp) <;> kernel_rfl)
      try simp only [Act.put, puA, puB, puC]
      refine linp_done (by kernel_rfl) fun W hS => ?_
      have S1 := Lib.hid hS
      clear hS S HF
      go_wp2_with (go_at_call 85; (with_reducible refine (must_ok _).mono ?_); rintro e w3 ⟨rfl, rfl⟩)
      refine (smustData_any S1.out.ctx m).mono ?_
      intro e w4 hE
      rcases S1.out.bind hE with ⟨rfl, hR⟩ | ⟨p, s2, L2, hp, rfl, S2⟩
      · exact ⟨rfl, hR⟩
      have HMD : Hid (m ≠ 0 → okP n m) := Lib.hid (fun hm => (data_ok S1.out.ctx.vs (data_of S1.out.ctx.vs hp hm).1).1)
      have hd : Fs.dataF n I m (nv s) = .ok p := by
        unfold Fs.tell at hp
        injection hp
      have HDL := Lib.hid (data_len S1.out.ctx.vs hd)
      have HM0 : Hid (m = 0 → p = zeros) := Lib.hid (fun hm => by
        rw [hm] at hd
        unfold Fs.dataF at hd
        rw [if_pos rfl] at hd
        injection hd with hd
        exact hd.symm)
      have S := Lib.hid S2
      clear S1 S2 hE hp hd
      by_cases hpq : blankP p (sz % 64) = p
      · replace S := Lib.hid (S.out.of (congrFun (if_pos hpq) _))
        have HV : Hid (byteVals p = (byteVals p).take (sz % 64) ++ List.replicate (64 - sz % 64) (Value.int .u8 0) ++ (byteVals p).drop (sz % 64 + (List.replicate (64 - sz % 64) (Value.int .u8 0)).length)) := Lib.hid (by
          have := blank_vals p (sz % 64) HDL.out (Nat.le_of_lt HK.out)
          rw [hpq] at this
          exact this)
        have E0 : ∀ (w : World) (x y : Operand), (eqGuard .neq 68 x y (pageV p) (pageV p)).run Tryz.prog w = .ok () w := fun w x y => run_neGuard_page w x y p p
        have E1 : ∀ (w : World), (binOp .neq 68 (pageV p) (pageV p)).run Tryz.prog w = .ok (.bool false) w := fun w => run_neq_same w p HDL.out
        clear hpq HM0 HMD
        go_wp2_with (first
          | ((with_reducible refine wpList_store_new rfl (.tmp 9) (.tmp 31) rfl rfl ?_ ?_ HDL.out ?_); (exact rfl); (exact rfl); intro W2 hP hB2 hz2; replace S := Lib.hid (S.out.made hP.rowAt hB2 hz2); clear hP hB2 hz2)
          | (with_reducible refine wpList_load_page (S.out.lo.page 1 rfl HDL.out) rfl (.tmp 9) rfl rfl ?_)
          | ((with_reducible refine wpList_store_new rfl (.tmp 10) (.tmp 32) rfl rfl ?_ ?_ HDL.out ?_); (exact rfl); (exact rfl); intro W3 hP hB2 hz2; replace S := Lib.hid (S.out.made hP.rowAt hB2 hz2); clear hP hB2 hz2; have hsl := HSL.out W3 W2.heap.size)
          | ((with_reducible refine wpList_clear_page (S.out.lo.page 2 rfl HDL.out) HK.out (64 - sz % 64) rfl (.tmp 34) _ rfl rfl rfl rfl ?_ ?_); (exact rfl); clear hsl; have S3 := Lib.hid (S.out.part 2 _ rfl (sz % 64) (List.replicate (64 - sz % 64) (.int .u8 0)) (byteVals p) (by rw [byteVals_length, HDL.out, List.length_replicate]; have := HK.out; omega) HV.out); clear S; have S := Lib.hid S3.out; clear S3)
          | (with_reducible refine wpList_load_page (S.out.lo.page 2 rfl HDL.out) rfl (.tmp 10) rfl rfl ?_))
        go_end0
        exact S.out.done rfl
      · replace S := Lib.hid (S.out.of (congrFun (if_neg hpq) _))
        have HV := Lib.hid (blank_vals p (sz % 64) HDL.out (Nat.le_of_lt HK.out))
        have HQL := Lib.hid (blankP_length p (sz % 64) HDL.out (Nat.le_of_lt HK.out))
        have HMO : Hid (okP n m) := Lib.hid (HMD.out (fun hm => hpq (by
          rw [HM0.out hm]
          unfold blankP zeros
          rw [List.take_replicate, List.replicate_append_replicate]
          congr 1
          have := HK.out
          omega)))
        have E0 : ∀ (w : World) (x y : Operand), (eqGuard .neq 68 x y (pageV (blankP p (sz % 64))) (pageV p)).run Tryz.prog w = .ok () w := fun w x y => run_neGuard_page w x y _ p
        have E1 : ∀ (w : World), (binOp .neq 68 (pageV (blankP p (sz % 64))) (pageV p)).run Tryz.prog w = .ok (.bool true) w := fun w => run_neq_not w _ p HQL.out HDL.out hpq
        replace S : Hid (Stp R B b n I [] w (fun _ e _ => e = .returned (.tuple #[])) [(w.heap.size, inoL x)] s2 (Fs.wr m.toNat (blankP p (sz % 64))) w4) := S
        clear hpq HM0 HMD
        generalize hq : blankP p (sz % 64) = q at HV HQL E0 E1 S
        clear hq
        go_wp2_with (first
          | ((with_reducible refine wpList_store_new rfl (.tmp 9) (.tmp 31) rfl rfl ?_ ?_ HDL.out ?_); (exact rfl); (exact rfl); intro W2 hP hB2 hz2; replace S := Lib.hid (S.out.made hP.rowAt hB2 hz2); clear hP hB2 hz2)
          | (with_reducible refine wpList_load_page (S.out.lo.page 1 rfl HDL.out) rfl (.tmp 9) rfl rfl ?_)
          | ((with_reducible refine wpList_store_new rfl (.tmp 10) (.tmp 32) rfl rfl ?_ ?_ HDL.out ?_); (exact rfl); (exact rfl); intro W3 hP hB2 hz2; replace S := Lib.hid (S.out.made hP.rowAt hB2 hz2); clear hP hB2 hz2; have hsl := HSL.out W3 W2.heap.size)
          | ((with_reducible refine wpList_clear_page (S.out.lo.page 2 rfl HDL.out) HK.out (64 - sz % 64) rfl (.tmp 34) _ rfl rfl rfl rfl ?_ ?_); (exact rfl); clear hsl; have S3 := Lib.hid (S.out.part 2 _ rfl (sz % 64) (List.replicate (64 - sz % 64) (.int .u8 0)) (byteVals q) (by rw [byteVals_length, HDL.out, List.length_replicate]; have := HK.out; omega) HV.out); clear S; have S := Lib.hid S3.out; clear S3)
          | (with_reducible refine wpList_load_page (S.out.lo.page 2 rfl HQL.out) rfl (.tmp 10) rfl rfl ?_)
          | (go_at_call 53; (with_reducible refine (sput_step S.out.ctx m q HMO.out HQL.out).mono ?_); intro e w8 hE; rcases S.out.last hE with ⟨rfl, hR⟩ | ⟨_, s6, L6, _, rfl, S2⟩; (exact ⟨rfl, hR⟩); clear S hE; have S := Lib.hid S2; clear S2))
        go_end0
        exact S.out.done rfl
end
end Go.Proofs.YtncmihikpcdgoaaGreat
