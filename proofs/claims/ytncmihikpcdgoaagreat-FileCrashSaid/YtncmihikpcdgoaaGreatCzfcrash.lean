/-
  FileCrash, proved: behind a crash there is one of the states, and none ahead of the last Sync's.
-/
import Derived.Test.YtncmihikpcdgoaaGreatCar
set_option maxRecDepth 100000
set_option maxHeartbeats 16000000
namespace Go.Proofs.YtncmihikpcdgoaaGreat
namespace fileCrash
open Go.ChangeShapes Go.WideShapes Go.ChangeAt Go.RowKit
open Dk (zeros zeros_length)
open Ii (Ino)
theorem own : ownKnob Tryz.prog.godebug = none := by kernel_rfl
theorem laidOut : laidOutB Tryz.prog = true := by kernel_rfl
theorem pl : Pl.rightB 110 6 = true := by decide
theorem fuse_vol {w w' : World} {V : Nat} {b : Blk} {s : Sto} {n I : Int} (h : VolAt w V b s n I 0) {k : Int} (hd : DiskAt w' b.d b.l b.m (Dk.fuse s.dk k)) (ho : Only [b.d] w w') : VolAt w' V b { s with dk := Dk.fuse s.dk k } n I 0 := by
  have hs := h.store
  have ne := Blk.ne hs.nd
  obtain ⟨q', hj, hq⟩ := hs.ja
  have e : ∀ x, x ∈ b.all → x ≠ b.d → w'.heap[x]? = w.heap[x]? := fun x hx hn => ho.block x (hs.lt x hx) (by simpa using hn)
  have m1 : b.s ∈ b.all ∧ b.j ∈ b.all ∧ b.t ∈ b.all ∧ b.g ∈ b.all ∧ b.d ∈ b.all := by simp [Blk.all]
  refine ⟨h.row.only ho (fun q => by rw [List.mem_singleton] at q; exact h.nb (q ▸ m1.2.2.2.2)), ?_, h.nb⟩
  exact ⟨hs.row.block (e _ m1.1 (by omega)), ⟨q', hj.block (e _ m1.2.1 (by omega)), hq⟩, hd, hs.step.block (e _ m1.2.2.1 (by omega)), hs.group.block (e _ m1.2.2.2.1 (by omega)), hs.nd, ⟨hs.ok.slen, hs.ok.glen, hs.ok.spg, hs.ok.gpg, hs.ok.scnt, hs.ok.gcnt, hs.ok.a9, hs.ok.z9, hs.ok.reg, hs.ok.room, hs.ok.r1, hs.ok.r32, hs.ok.rz⟩⟩
theorem cr_start {s : Sto} (h : FmtS s 110 6) (k : Int) (hk : -9223372036854775808 ≤ k) (hk2 : k ≤ 9223372036854775807) : Cr 110 6 0 [Fs.cleanF 110 6 (nv { s with dk := Dk.fuse s.dk k })] 0 { s with dk := Dk.fuse s.dk k } ∧ Vs { s with dk := Dk.fuse s.dk k } 110 6 := by
  have hv := h.vs pl
  have hc := h.calm pl
  have hsnd := hv.snd
  have hok : Sto.Ok { s with dk := Dk.fuse s.dk k } := ⟨hsnd.ok.slen, hsnd.ok.glen, hsnd.ok.spg, hsnd.ok.gpg, hsnd.ok.scnt, hsnd.ok.gcnt, hsnd.ok.a9, hsnd.ok.z9, hsnd.ok.reg, hsnd.ok.room, hsnd.ok.r1, hsnd.ok.r32, hsnd.ok.rz⟩
  have v0 : Vs { s with dk := Dk.fuse s.dk k } 110 6 := ⟨⟨hok, hsnd.up, Jn.fuse_cl hsnd.cl k hk hk2, hsnd.q0, hsnd.head⟩, hv.a, hv.z, hv.r, hv.len, hv.pl⟩
  have hid : Idle { s with dk := Dk.fuse s.dk k } := hc.idle
  have hgr : s.group = noPgs s.dk.last.length := by rw [h.st]; rfl
  have e : nv { s with dk := Dk.fuse s.dk k } = nv s := rfl
  have hn : Fs.Nice 110 6 (nv { s with dk := Dk.fuse s.dk k }) := by
    rw [e]
    have hi := h.inode pl 1 (by omega) (by omega)
    rw [if_pos rfl] at hi
    exact ⟨h.pg 0 (by omega) (by omega), by rw [hi]; rfl, by rw [hi]; decide⟩
  refine ⟨⟨Nat.le_refl _, by simp, hv.len, Or.inl ⟨v0, hid, by show s.q ≤ _; rw [h.q.1]; omega, by show s.group.getD 0 none = none; rw [hgr, noPgs_at], hn, rfl, ?_⟩⟩, v0⟩
  have hl : lv { s with dk := Dk.fuse s.dk k } = nv { s with dk := Dk.fuse s.dk k } := by
    funext i
    rw [idle_nv hid]
    show s.dk.last.getD i [] = (s.group.getD i none).getD (s.dk.last.getD i [])
    rw [hgr, noPgs_at]
    rfl
  rw [hl]
  exact ⟨hn, 0, Nat.le_refl _, by simp, rfl⟩
theorem do_cr {w : World} {V : Nat} {b : Blk} {s : Sto} {m : Nat} {sts : List (List UInt8)} {sure : Nat} (h : VolAt w V b s 110 6 0) (hc : Cr 110 6 m sts sure s) (hm : m ≤ 45) (o : Fop) (ht : o.text.length ≤ 512) (ho : ¬ (o.ino = 1 ∧ (o.k = 1 ∨ o.k = 2))) :
    Calls Tryz.prog 10 #[.pointer (some ⟨V, 0, none⟩), .agg (opL o).toArray] w fun e w' => ∃ (er y : Int) (s2 : Sto), e = .returned (.tuple #[.int .i64 y, .int .i64 er]) ∧ VolAt w' V b s2 110 6 0 ∧ Only (V :: b.all) w w' ∧ ((er = 0 ∧ Cr 110 6 (m + 1) (sts ++ [Fs.cleanF 110 6 (nv s2)]) sure s2 ∧ Vs s2 110 6) ∨ (er ≠ 0 ∧ Cr 110 6 (m + 1) sts sure s2)) := by
  cases hov : s.over with
  | true =>
    refine (lawDo_over h hov o).mono ?_
    rintro e w' ⟨rfl, hb⟩
    exact ⟨5, 0, s, rfl, h.below hb, Only.below hb, Or.inr ⟨by decide, hc.more⟩⟩
  | false =>
    have u := hc.up hov
    refine (lawDo_any h u.vs (by have := u.q; omega) o (by omega)).mono ?_
    rintro e w' ⟨er, s2, a, hto, rfl, hv, hO⟩
    exact ⟨er, _, s2, rfl, hv, hO, hc.step pl hov hm o ho hto⟩
theorem sync_cr {w : World} {V : Nat} {b : Blk} {s : Sto} {m : Nat} {sts : List (List UInt8)} {sure : Nat} (h : VolAt w V b s 110 6 0) (hc : Cr 110 6 m sts sure s) (hm : m ≤ 45) :
    Calls Tryz.prog 22 #[.pointer (some ⟨V, 0, none⟩)] w fun e w' => ∃ (er : Int) (s2 : Sto), e = .returned (.int .i64 er) ∧ VolAt w' V b s2 110 6 0 ∧ Only (V :: b.all) w w' ∧ ((er = 0 ∧ Cr 110 6 (m + 1) sts (sts.length - 1) s2) ∨ (er ≠ 0 ∧ Cr 110 6 (m + 1) sts sure s2)) := by
  cases hov : s.over with
  | true =>
    refine (vsync_over h hov).mono ?_
    rintro e w' ⟨rfl, rfl⟩
    exact ⟨5, s, rfl, h, Only.refl _ _, Or.inr ⟨by decide, hc.more⟩⟩
  | false =>
    have u := hc.up hov
    refine (vsync_any h hov u.vs.snd.q0 (by have := u.q; omega)).mono ?_
    rintro e w' ⟨rfl, hv, hO⟩
    exact ⟨_, _, rfl, hv, hO.mono (fun i hi => List.mem_cons_of_mem _ (by simp only [syncL, Blk.all, List.mem_cons, List.not_mem_nil, or_false] at hi ⊢; rcases hi with h | h | h | h | h <;> simp [h])), hc.sync pl hov hm⟩
def stsV (sts : List (List UInt8)) : List Value := sts.map fun l => .string (strOf l)
theorem stsV_app (sts : List (List UInt8)) (X : List UInt8) : stsV (sts ++ [X]) = stsV sts ++ [.string (strOf X)] := by unfold stsV; rw [List.map_append]; rfl
theorem vol_grown {w w' : World} {V : Nat} {b : Blk} {s : Sto} {n I k : Int} {r : Option Nat} (h : VolAt w V b s n I k) (hg : w.grownBy w' r) (hr : ∀ j, r = some j → j ≠ V ∧ j ∉ b.all) : VolAt w' V b s n I k := by
  cases r with
  | none => exact h.only (L := []) ⟨hg.os, hg.tape, hg.output, hg.size, fun j hj _ => hg.block j hj (by simp)⟩ (by simp) (by simp)
  | some g =>
    obtain ⟨h1, h2⟩ := hr g rfl
    exact h.only (L := [g]) ⟨hg.os, hg.tape, hg.output, hg.size, fun j hj hn => hg.block j hj (by simpa using hn)⟩ (by simpa using fun q => h1 q.symm) (fun i hi q => by rw [List.mem_singleton] at q; subst q; exact h2 hi)
theorem upto_cap (bs : List UInt8) (on1 : Bool) (a : Int) (B : Nat) : ∀ k, (Bt.upto bs on1 a (B : Int) k).length ≤ min k B
  | 0 => by simp [Bt.upto_zero]
  | k + 1 => by
    have ih := upto_cap bs on1 a B k
    cases q : Bt.among bs on1 a (B : Int) k with
    | true =>
      rw [Bt.upto_yes _ _ _ _ _ q, List.length_append, List.length_singleton]
      have : k < B := by
        unfold Bt.among at q
        rw [Bool.and_eq_true, Bool.and_eq_true, decide_eq_true_iff, decide_eq_true_iff] at q
        omega
      omega
    | false =>
      rw [Bt.upto_no _ _ _ _ _ q]
      omega
theorem free_pos (V : Fs.View) : 0 ≤ Fs.freeV 110 6 V := by
  unfold Fs.freeV Bt.all
  have e : (110 : Int) - Pl.dataN 6 = ((64 : Nat) : Int) := by decide
  rw [e]
  have := upto_cap (V 42) true 0 64 (8 * (V 42).length)
  omega
theorem own_strs {w : World} {base : Nat} {A : Option Addr} {c : Nat} {sts : List (List UInt8)} (h : w.ownsRow base 9 1 (.slice A sts.length c) sts.length (stsV sts)) (hn : 0 < sts.length) :
    ∃ g cap, (Value.slice A sts.length c) = .slice (some ⟨g, 0, none⟩) sts.length cap ∧ base ≤ g ∧ g < w.heap.size ∧ sts.length ≤ cap ∧ cap ≤ maxLen ∧ ∀ (i : Nat) (x : List UInt8), sts[i]? = some x → w.cell? ⟨g, i, none⟩ = some (.string (strOf x)) := by
  have hc := fun (g : Nat) hg => World.ownsRow.cells h (g := g) hg
  rcases h.2 with ⟨_, h0⟩ | ⟨g, cap, cur, hv, hb, hg, hnc, hcm, _, _⟩
  · omega
  · refine ⟨g, cap, hv, hb, (Array.getElem?_eq_some_iff.1 hg).1, hnc, hcm, fun i x hx => ?_⟩
    have := hc g (by rw [hv]; rfl) i (.string (strOf x)) (by unfold stsV; rw [List.getElem?_map, hx]; rfl)
    unfold Addr.add at this
    by_cases e : i = 0
    · subst e; simpa using this
    · simpa [e] using this
theorem own_only {w w' : World} {base n : Nat} {e : TypeId} {v : Value} {xs : List Value} {L : List Nat} (h : w.ownsRow base e 1 v n xs) (ho : Only L w w') (hL : ∀ k ∈ L, k < base) : w'.ownsRow base e 1 v n xs := by
  refine ⟨h.1, ?_⟩
  rcases h.2 with hn | ⟨g, cap, cur, hv, hg0, hg, rest⟩
  · exact Or.inl hn
  · exact Or.inr ⟨g, cap, cur, hv, hg0, (ho.block g (Array.getElem?_eq_some_iff.1 hg).1 (fun q => by have := hL g q; omega)).trans hg, rest⟩
theorem info_str : (Tryz.prog.info? 9).map (fun i => (i.size, i.bytes)) = some (1, 16) := by kernel_rfl
theorem zero_str : (Tryz.prog.info? 9).map (fun i => i.zero) = some (some (.string ⟨#[]⟩)) := by kernel_rfl
theorem walk (A : Option Addr) (n c : Nat) (os : List Fop) (fz : Int) (A2 : Option Addr) (n2 c2 : Nat) (keep : List UInt8) (w : World) (hrow : FopRow w A n os) (hrow2 : ByteRow w A2 n2 c2 keep) (hf0 : -9223372036854775808 ≤ fz) (hf1 : fz ≤ 9223372036854775807) : Calls Tryz.prog 4 #[.slice A n c, .int .i64 fz, .slice A2 n2 c2] w fun e w' => e = .returned (.bool true) ∧ Below w.heap.size w w' := by
  have hsm2 := hrow2.small
  unfold maxLen at hsm2
  have HG := Lib.hid (fun (W : World) (hb : Below w.heap.size w W) => fgreat_any (c := c) (most := 40) (hrow.step hb) (by decide))
  have HR := Lib.hid hrow
  have HR2 := Lib.hid hrow2
  have HLN := Lib.hid hrow.len
  have HF : Hid (∀ W, Calls Tryz.prog 9 #[.int .i64 110, .int .i64 6] W fun e w' => ∃ (V : Nat) (b : Blk) (s : Sto), e = .returned (.tuple #[.pointer (some ⟨V, 0, none⟩), .pointer (some ⟨b.d, 0, none⟩)]) ∧ VolAt w' V b s 110 6 0 ∧ FmtS s 110 6 ∧ Below W.heap.size W w' ∧ W.heap.size ≤ V ∧ ∀ k ∈ b.all, W.heap.size ≤ k) := Lib.hid (fun W => lawFresh_any W 110 6 pl)
  clear hrow hrow2
  go_enter Tryz.func4, Tryz.ntmps4
  go_wp2_with fail
  refine (fawake_any _).mono ?_
  rintro e w1 ⟨rfl, hb1⟩
  go_wp2_with fail
  refine (HG.out w1 hb1).mono ?_
  rintro e w2 ⟨g, rfl, hg, hb2⟩
  have hb2' := hb1.trans (hb2.mono hb1.size)
  cases g with
  | true =>
    go_wp2_with fail
    go_ret
    exact ⟨rfl, hb2'⟩
  | false =>
    obtain ⟨hn40', htx⟩ := hg rfl
    have hn40 : n ≤ 40 := by have := HLN.out; omega
    have HTX := Lib.hid htx
    clear hn40' htx hg hb1 hb2
    by_cases h6 : (600 : Int) < (n2 : Int)
    · go_wp2_with fail
      go_ret
      exact ⟨rfl, hb2'⟩
    · go_wp2_with fail
      refine (HF.out w2).mono ?_
      rintro e w3 ⟨V, b, s, rfl, hv, hs, hb3, hV, hbb⟩
      obtain ⟨hcr, hvs⟩ := cr_start hs fz hf0 hf1
      have HB3 := Lib.hid (hb2'.trans (hb3.mono hb2'.size))
      have HLOW : Hid (∀ k ∈ V :: b.all, w.heap.size ≤ k) := Lib.hid (fun k hk => by
        have := hb2'.size
        rcases List.mem_cons.1 hk with rfl | hk
        · omega
        · have := hbb k hk; omega)
      clear hb2' hb3 hV hbb
      go_wp2_with fail
      refine (fuse_any hv.store.disk fz hf0 hf1).mono ?_
      rintro e w4 ⟨rfl, hd4, ho4, hz4⟩
      have HV4 := Lib.hid (fuse_vol hv hd4 ho4)
      have HB4 : Hid (Below w.heap.size w w4) := Lib.hid (Only.toBelowOld HB3.out ho4 HB3.out.size (fun k hk => HLOW.out k (by rw [List.mem_singleton] at hk; subst hk; simp [Blk.all])))
      have HCR := Lib.hid hcr
      have HVS := Lib.hid hvs
      clear hcr hvs hs hd4 ho4 hz4 HB3 hv
      generalize hs0 : ({ s with dk := Dk.fuse s.dk fz } : Sto) = s0 at HV4 HCR HVS
      clear hs0
      have HC0 := Lib.hid (clean_any HV4.out HVS.out)
      have HX0 : Hid (∃ X, X = Fs.cleanF 110 6 (nv s0)) := Lib.hid ⟨_, rfl⟩
      obtain ⟨X0, hX0⟩ := HX0.out
      rw [← hX0] at HC0 HCR
      clear hX0 HX0
      go_wp2_with fail
      refine HC0.out.mono ?_
      rintro e w5 ⟨rfl, hb5⟩
      have HV5 := Lib.hid (HV4.out.below hb5)
      have HB5 := Lib.hid (HB4.out.trans (hb5.mono HB4.out.size))
      clear hb5 HV4 HB4 HC0
      go_wp2_with fail
      have S6 := Lib.hid ((Lo.start (L := V :: b.all) w5 (fun k hk => by
        rcases List.mem_cons.1 hk with rfl | hk
        · exact HV5.out.row.lt
        · exact HV5.out.store.lt k hk)).skip (.cells #[.string (strOf X0)] 9))
      have HV6 := Lib.hid (HV5.out.alloc (.cells #[.string (strOf X0)] 9))
      have HO6 : Hid ((w5.alloc (.cells #[.string (strOf X0)] 9)).ownsRow w5.heap.size 9 1 (.slice (some ⟨w5.heap.size, 0, none⟩) ([X0] : List (List UInt8)).length 1) ([X0] : List (List UInt8)).length (stsV [X0])) := Lib.hid (World.ownsRow_lit (base := w5.heap.size) (e := 9) (size := 1) w5 #[.string (strOf X0)] 1 (Nat.le_refl _) (by unfold maxLen; omega) rfl)
      have HBL : Hid (∀ k ∈ V :: b.all, k < w5.heap.size) := Lib.hid (fun k hk => by
        rcases List.mem_cons.1 hk with rfl | hk
        · exact HV5.out.row.lt
        · exact HV5.out.store.lt k hk)
      have HBW : Hid (∀ W l, Lo (V :: b.all) w5 l W → Below w.heap.size w W) := Lib.hid (fun W l hl => Only.toBelowOld HB5.out hl.only HB5.out.size HLOW.out)
      have HS1 : Hid (([X0] : List (List UInt8)).length = 1) := Lib.hid rfl
      generalize ([X0] : List (List UInt8)) = sts0 at HO6 HCR HS1
      generalize w5.alloc (.cells #[.string (strOf X0)] 9) = w6 at S6 HV6 HO6 ⊢
      clear HV5
      obtain ⟨i0, hi0, hz0⟩ := Option.map_eq_some_iff.1 info_str
      have HI0 := Lib.hid hi0
      have HZ0 : Hid (i0.zero = some (.string ⟨#[]⟩)) := Lib.hid (by
        have := zero_str
        rw [hi0] at this
        simpa using this)
      have HS0 : Hid (i0.size = 1) := Lib.hid (congrArg Prod.fst hz0)
      have HB0 : Hid (i0.bytes = 16) := Lib.hid (congrArg Prod.snd hz0)
      clear hi0 hz0
      go_loopw [9, 10, 43] (fun st sr i wr => ∃ (k : Nat) (sts : List (List UInt8)) (sure : Nat) (s' : Sto) (A' : Option Addr) (c' : Nat), k ≤ n ∧ st = .slice A' sts.length c' ∧ sr = .int .i64 sure ∧ i = .int .i64 k ∧ Lo (V :: b.all) w5 [] wr ∧ Hid (VolAt wr V b s' 110 6 0) ∧ Hid (Cr 110 6 k sts sure s') ∧ Hid (wr.ownsRow w5.heap.size 9 1 (.slice A' sts.length c') sts.length (stsV sts))) (fun _ _ i _ => n - (intOf i).toNat)
      case atStart => exact ⟨0, sts0, 0, s0, some ⟨w5.heap.size, 0, none⟩, 1, Nat.zero_le _, by rw [HS1.out], rfl, rfl, S6.out, HV6, HCR, HO6⟩
      case round =>
        clear S6 HV6 HCR HO6 HS1
        obtain ⟨k, sts, sure, s', A', c', hk, rfl, rfl, rfl, hS, HV, HC, HO⟩ := hrel
        have S := Lib.hid hS
        clear hS
        have hfew := HC.out.few
        have hslt := HC.out.lt
        by_cases hlt : k < n
        · obtain ⟨o, ho⟩ : ∃ o, os[k]? = some o := ⟨_, List.getElem?_eq_getElem (by rw [HLN.out]; exact hlt)⟩
          have HRO := Lib.hid (HR.out.step (HBW.out _ _ S.out))
          obtain ⟨pb, poff, rfl, hpb, hpr⟩ := HRO.out.cells (by omega)
          have HPI := Lib.hid (hpr k o ho)
          have HT := Lib.hid (HTX.out o (List.mem_of_getElem? ho))
          clear hpr hpb ho
          by_cases hroot : o.ino = 1 ∧ (o.k = 1 ∨ o.k = 2)
          · have gi : (o.ino == 1) = true := by simpa using hroot.1
            have gk : ((o.k == 1) = true) ∨ ((o.k == 1) = false ∧ (o.k == 2) = true) := by
              rcases hroot.2 with q | q
              · left; simpa using q
              · right; rw [q]; exact ⟨rfl, rfl⟩
            clear hroot
            rcases gk with g1 | ⟨g1, g2⟩
            all_goals
              go_wp2_with (first
                | (with_reducible refine wpList_load_mid rfl 33 (.tmp 45) rfl pb (poff + k * 16) rfl (opL o) _ HPI.out Tryz.underlying33 rfl (by kernel_rfl) ?_)
                | ((with_reducible refine wpList_store_newrow (vs := opL o) opT ?_ (opL_one _) rfl (.tmp 12) (.tmp 46) rfl rfl ?_ ?_ ?_); (exact rfl); (exact rfl); (exact rfl); intro W4 hP hB2 hz2; have S2 := Lib.hid (S.out.made hP hB2 hz2); have HV2 := Lib.hid (HV.out.below hB2); have HO2 := Lib.hid (own_below HO.out hB2); clear hP hB2 hz2; have c0 := (S2.out.get 0 _ rfl).cell 0 _ rfl; have c1 := (S2.out.get 0 _ rfl).cell 1 _ rfl))
              go_roundw
              case rel => exact ⟨k + 1, sts, sure, s', A', c', by omega, rfl, rfl, by go_num, S2.out.cut 0, HV2, Lib.hid HC.out.more, HO2⟩
              case measure => simp [intOf]; omega
          · have gk : ((o.ino == 1) = false) ∨ ((o.ino == 1) = true ∧ (o.k == 1) = false ∧ (o.k == 2) = false) := by
              by_cases q : o.ino = 1
              · right; exact ⟨by simpa using q, by simpa using fun h => hroot ⟨q, Or.inl h⟩, by simpa using fun h => hroot ⟨q, Or.inr h⟩⟩
              · left; simpa using q
            have HDO := Lib.hid (fun (W : World) (hv : VolAt W V b s' 110 6 0) => do_cr hv HC.out (by omega) o HT.out hroot)
            have HSY := Lib.hid (fun (W : World) (hv : VolAt W V b s' 110 6 0) => sync_cr hv HC.out (by omega))
            clear hroot
            by_cases hq : o.k < 5
            · rcases gk with gi | ⟨gi, g1, g2⟩
              all_goals
                go_wp2_with (first
                  | (with_reducible refine wpList_load_mid rfl 33 (.tmp 45) rfl pb (poff + k * 16) rfl (opL o) _ HPI.out Tryz.underlying33 rfl (by kernel_rfl) ?_)
                  | ((with_reducible refine wpList_store_newrow (vs := opL o) opT ?_ (opL_one _) rfl (.tmp 12) (.tmp 46) rfl rfl ?_ ?_ ?_); (exact rfl); (exact rfl); (exact rfl); intro W4 hP hB2 hz2; have S2 := Lib.hid (S.out.made hP hB2 hz2); have HV2 := Lib.hid (HV.out.below hB2); have HO2 := Lib.hid (own_below HO.out hB2); clear hP hB2 hz2; have c0 := (S2.out.get 0 _ rfl).cell 0 _ rfl; have c1 := (S2.out.get 0 _ rfl).cell 1 _ rfl)
                  | (with_reducible refine wpList_load_rw opT (S2.out.get 0 _ rfl) rfl rfl (.tmp 12) rfl rfl ?_))
                refine (HDO.out _ HV2.out).mono ?_
                rintro e w8 ⟨er, y, s2, rfl, hv8, ho8, hres⟩
                have S8 := Lib.hid (S2.out.call ho8 (fun i hi => hi))
                have HV8 := Lib.hid hv8
                have HO8 := Lib.hid (own_only HO2.out ho8 HBL.out)
                have c8 := (S8.out.get 0 _ rfl).cell 0 _ rfl
                clear hv8 ho8 HV2 S2 HO2 c0 c1
                rcases hres with ⟨rfl, hcr, hvs⟩ | ⟨h0, hcr⟩
                · have HC8 := Lib.hid hcr
                  have HCL := Lib.hid (fun (W : World) (hv : VolAt W V b s2 110 6 0) => clean_any hv hvs)
                  obtain ⟨X, hX⟩ : ∃ X, X = Fs.cleanF 110 6 (nv s2) := ⟨_, rfl⟩
                  rw [← hX] at HCL HC8
                  clear hX hcr hvs
                  go_wp2_with (first
                    | (go_at_call 21; (with_reducible refine (HCL.out _ HV8.out).mono ?_); rintro e w9 ⟨rfl, hb9⟩; have S9 := Lib.hid (((S8.out.below hb9).cut 0).skip (.cells #[.string (strOf X)] 9)); have HV9 := Lib.hid ((HV8.out.below hb9).alloc (.cells #[.string (strOf X)] 9)); have HO9 := Lib.hid ((own_below HO8.out hb9).alloc (.cells #[.string (strOf X)] 9)); have HNW := Lib.hid (cell_new w9 [.string (strOf X)] 9); have HSZ9 : Hid (w5.heap.size ≤ (w9.alloc (.cells #[.string (strOf X)] 9)).heap.size) := Lib.hid S9.out.only.size; clear hb9)
                    | (at_builtin; go_must (refine wpList_append_own_at _ rfl (.tmp 72) (.tmp 75) 49 rfl w5.heap.size 9 i0 _ 1 16 Tryz.underlying49 HI0.out HZ0.out HS0.out HB0.out rfl (by omega) _ sts.length _ rfl HO9.out ⟨w9.heap.size, 0, none⟩ 1 1 [.string (strOf X)] rfl rfl HNW.out (by simp [Value.oneCell']) (by unfold maxLen; omega) (by omega) HSZ9.out ?_; intro v' w10 hown' hgrow hnil hloc; obtain ⟨A10, c10, rfl⟩ := owns_slice hown'; have S10 := Lib.hid (S9.out.grown hgrow (fun j hj => ⟨(HO9.out.lt j hj).1, fun x hx => by simp at hx⟩)); have HV10 := Lib.hid (vol_grown HV9.out hgrow (fun j hj => by have h1 := (HO9.out.lt j hj).1; exact ⟨fun q => by have := HBL.out V (List.mem_cons_self ..); omega, fun q => by have := HBL.out j (List.mem_cons_of_mem _ q); omega⟩)); have HO10 : Hid (w10.ownsRow w5.heap.size 9 1 (.slice A10 (sts ++ [X]).length c10) (sts ++ [X]).length (stsV (sts ++ [X]))) := Lib.hid (by rw [stsV_app, List.length_append]; exact hown'); clear hown' hgrow hnil hloc)))
                  go_roundw
                  case rel => exact ⟨k + 1, sts ++ [X], sure, s2, A10, c10, by omega, by rw [List.length_append]; rfl, rfl, by go_num, S10.out, HV10, HC8, HO10⟩
                  case measure => simp [intOf]; omega
                · have HC8 := Lib.hid hcr
                  clear hcr
                  go_wp2_with fail
                  go_roundw
                  case rel => exact ⟨k + 1, sts, sure, s2, A', c', by omega, rfl, rfl, by go_num, S8.out.cut 0, HV8, HC8, HO8⟩
                  case measure => simp [intOf]; omega
            · by_cases hq6 : o.k = 6
              · have g6 : (o.k == 6) = true := by simpa using hq6
                have HK6 := Lib.hid hq6
                rcases gk with gi | ⟨gi, g1, g2⟩
                all_goals
                  go_wp2_with (first
                    | (with_reducible refine wpList_load_mid rfl 33 (.tmp 45) rfl pb (poff + k * 16) rfl (opL o) _ HPI.out Tryz.underlying33 rfl (by kernel_rfl) ?_)
                    | ((with_reducible refine wpList_store_newrow (vs := opL o) opT ?_ (opL_one _) rfl (.tmp 12) (.tmp 46) rfl rfl ?_ ?_ ?_); (exact rfl); (exact rfl); (exact rfl); intro W4 hP hB2 hz2; have S2 := Lib.hid (S.out.made hP hB2 hz2); have HV2 := Lib.hid (HV.out.below hB2); have HO2 := Lib.hid (own_below HO.out hB2); clear hP hB2 hz2; have c0 := (S2.out.get 0 _ rfl).cell 0 _ rfl; have c1 := (S2.out.get 0 _ rfl).cell 1 _ rfl))
                  refine (HSY.out _ HV2.out).mono ?_
                  rintro e w8 ⟨er, s2, rfl, hv8, ho8, hres⟩
                  have S8 := Lib.hid (S2.out.call ho8 (fun i hi => hi))
                  have HV8 := Lib.hid hv8
                  have HO8 := Lib.hid (own_only HO2.out ho8 HBL.out)
                  clear hv8 ho8 HV2 S2 HO2 c0 c1
                  rcases hres with ⟨rfl, hcr⟩ | ⟨h0, hcr⟩
                  · have HC8 := Lib.hid hcr
                    clear hcr
                    go_wp2_with fail
                    go_roundw
                    case rel => exact ⟨k + 1, sts, sts.length - 1, s2, A', c', by omega, rfl, (by congr 1; omega), by go_num, S8.out.cut 0, HV8, HC8, HO8⟩
                    case measure => simp [intOf]; omega
                  · have HC8 := Lib.hid hcr
                    clear hcr
                    go_wp2_with fail
                    go_roundw
                    case rel => exact ⟨k + 1, sts, sure, s2, A', c', by omega, rfl, rfl, by go_num, S8.out.cut 0, HV8, HC8, HO8⟩
                    case measure => simp [intOf]; omega
              · have g6 : (o.k == 6) = false := by simpa using hq6
                rcases gk with gi | ⟨gi, g1, g2⟩
                all_goals
                  go_wp2_with (first
                    | (with_reducible refine wpList_load_mid rfl 33 (.tmp 45) rfl pb (poff + k * 16) rfl (opL o) _ HPI.out Tryz.underlying33 rfl (by kernel_rfl) ?_)
                    | ((with_reducible refine wpList_store_newrow (vs := opL o) opT ?_ (opL_one _) rfl (.tmp 12) (.tmp 46) rfl rfl ?_ ?_ ?_); (exact rfl); (exact rfl); (exact rfl); intro W4 hP hB2 hz2; have S2 := Lib.hid (S.out.made hP hB2 hz2); have HV2 := Lib.hid (HV.out.below hB2); have HO2 := Lib.hid (own_below HO.out hB2); clear hP hB2 hz2; have c0 := (S2.out.get 0 _ rfl).cell 0 _ rfl; have c1 := (S2.out.get 0 _ rfl).cell 1 _ rfl))
                  go_roundw
                  case rel => exact ⟨k + 1, sts, sure, s', A', c', by omega, rfl, rfl, by go_num, S2.out.cut 0, HV2, Lib.hid HC.out.more, HO2⟩
                  case measure => simp [intOf]; omega
        · obtain rfl : k = n := by omega
          have HKA := Lib.hid (HR2.out.keep (L := [b.d, b.l, b.m]) (by omega) (HBW.out _ _ S.out) (fun q hq => HLOW.out q (by unfold Blk.all; simp at hq ⊢; omega)))
          have HCR := Lib.hid (crash_any HV.out.store.disk A2 c2 keep HKA.out)
          rw [HR2.out.len] at HCR
          obtain ⟨X, cs, B, c1, c2', c3, c4, c5, c6, c7⟩ := HC.out.fin pl (by omega) keep
          have HMT := Lib.hid (fun (W : World) (hd : DiskAt W b.d b.l b.m (Dk.crash s'.dk keep)) => crash_mount pl (by omega) hd (Jn.crash_cl c4 keep) rfl (by rw [Dk.crash_len]; exact HC.out.len) c5 c1 c2' c3 c6 c7)
          obtain ⟨g, cap, hA', hgb, hgl, hcap, hcm, hcells⟩ := own_strs HO.out (by omega)
          injection hA' with hA1 _ hA2
          subst hA1 hA2
          have HGN : Hid (g ∉ [b.d, b.l, b.m]) := Lib.hid (fun q => by have := HBL.out g (by unfold Blk.all; simp at q ⊢; omega); omega)
          have HCE := Lib.hid hcells
          have HGL := Lib.hid hgl
          clear c1 c2' c3 c4 c5 c6 c7 hcells
          go_wp2_with fail
          refine HCR.out.mono ?_
          rintro e w7 ⟨rfl, hd7, ho7⟩
          have HMM := Lib.hid (HMT.out w7 hd7)
          clear HCR HMT hd7 HKA
          go_wp2_with fail
          refine HMM.out.mono ?_
          rintro e w8 ⟨U, bu, u, _, _, _, _, _, _, _, _, rfl, hu, ⟨hvu, kk, k1, k2, k3⟩, ho8⟩
          have hoo : Only [b.d, b.l, b.m] wr w8 := ho7.trans ho8
          have HB8 : Hid (Below w.heap.size w w8) := Lib.hid (Only.toBelowOld (HBW.out _ _ S.out) hoo (HBW.out _ _ S.out).size (fun q hq => HLOW.out q (by unfold Blk.all; simp at hq ⊢; omega)))
          have HCE8 : Hid (∀ (i : Nat) (x : List UInt8), sts[i]? = some x → w8.cell? ⟨g, i, none⟩ = some (.string (strOf x))) := Lib.hid (fun i x hx => (hoo.cell (p := ⟨g, i, none⟩) HGL.out HGN.out).trans (HCE.out i x hx))
          have HG8 : Hid (g < w8.heap.size) := Lib.hid (Nat.lt_of_lt_of_le HGL.out hoo.size)
          have HU8 := Lib.hid hu
          have HVU := Lib.hid hvu
          have HCU := Lib.hid (clean_any hu hvu)
          rw [k3] at HCU
          obtain ⟨is, his⟩ : ∃ z, z = strOf (sts.getD kk []) := ⟨_, rfl⟩
          have HIS := Lib.hid his
          rw [← his] at HCU
          clear ho7 ho8 hoo HMM hu hvu k3 his HCE HGL HGN HO S HV HC
          go_wp2_with fail
          refine HCU.out.mono ?_
          rintro e w9 ⟨rfl, hb9⟩
          have HB9 := Lib.hid (HB8.out.trans (hb9.mono HB8.out.size))
          have HCE9 : Hid (∀ (i : Nat) (x : List UInt8), sts[i]? = some x → w9.cell? ⟨g, i, none⟩ = some (.string (strOf x))) := Lib.hid (fun i x hx => (hb9.cell (p := ⟨g, i, none⟩) HG8.out).trans (HCE8.out i x hx))
          have HU9 := Lib.hid (HU8.out.below hb9)
          have HG9 : Hid (g < w9.heap.size) := Lib.hid (Nat.lt_of_lt_of_le HG8.out hb9.size)
          clear hb9 HCE8 HU8 HB8 HG8 HCU
          obtain ⟨N, hN⟩ : ∃ N, sts.length = N := ⟨_, rfl⟩
          rw [hN] at hslt hfew hcap k2 ⊢
          have HN := Lib.hid hN
          clear hN
          have hs1 : (sure : Int) ≤ (N : Int) := by omega
          have hs2 : (N : Int) ≤ (c' : Int) := by omega
          unfold maxLen at hcm
          go_wp2_with fail
          go_loopw [104] (fun i wr => ∃ j : Nat, j ≤ kk - sure ∧ i = .int .i64 j ∧ Hid (Below w9.heap.size w9 wr)) (fun i _ => N - (intOf i).toNat)
          case atStart => exact ⟨0, Nat.zero_le _, rfl, Lib.hid (Below.refl _ _)⟩
          case round =>
            obtain ⟨j, hj, rfl, HBR⟩ := hrel
            rename World => we
            have hjl : sure + j < N := by omega
            obtain ⟨X, hX⟩ : ∃ X, sts[sure + j]? = some X := ⟨_, List.getElem?_eq_getElem (by rw [HN.out]; exact hjl)⟩
            have hcell : we.cell? ⟨g, sure + j, none⟩ = some (.string (strOf X)) := (HBR.out.cell (p := ⟨g, sure + j, none⟩) HG9.out).trans (HCE9.out _ X hX)
            have HT : Hid (j = kk - sure → strOf X = is) := Lib.hid (fun e => by
              have h2 : sts.getD kk [] = X := by
                rw [show kk = sure + j by omega, List.getD_eq_getElem?_getD, hX]; rfl
              rw [HIS.out, h2])
            have HFR := Lib.hid (vfree_any (HU9.out.below HBR.out) HVU.out)
            have HF0 : Hid (0 ≤ Fs.freeV 110 6 (nv u)) := Lib.hid (free_pos _)
            generalize Fs.freeV 110 6 (nv u) = fr at HFR HF0
            have hf0' := HF0.out
            have hj' : (j : Int) < ((N - sure : Nat) : Int) := by omega
            generalize strOf X = sx at hcell HT
            clear hX
            by_cases heq : (sx.toList == is.toList) = true
            · go_wp2_with (go_at_call 25; (with_reducible refine HFR.out.mono ?_); rintro e w10 ⟨rfl, hb10⟩)
              go_ret
              exact ⟨rfl, HB9.out.trans ((HBR.out.trans (hb10.mono HBR.out.size)).mono HB9.out.size)⟩
            · have hne : j ≠ kk - sure := fun e => heq (by rw [HT.out e]; exact beq_self_eq_true _)
              have g1 : (sx.toList == is.toList) = false := by simpa using heq
              clear heq
              go_wp2_with fail
              go_roundw
              case rel => exact ⟨j + 1, by omega, by go_num, HBR⟩
              case measure => simp [intOf]; omega
theorem lifted (os : Os) (started : os.Started) (H : Type) (enc : TypeId × Value → H) :
    ReturnsInHanded {} Tryz.checked os 4 .any (Rows.fileCrashSpec.pre6 enc Tryz.prog Tryz.f4 Rows.fileCrashRow.domain false) (Rows.fileCrashSpec.post enc Tryz.prog Tryz.f4 false true false false) := by
  refine returnsInHanded_of_change (C := Tryz.checked) own started (by kernel_rfl) Tryz.func4
    (ChangeSpec.witness6 (enc := enc) (C := Tryz.checked) false ⟨#[], #[.slice none 0 0, .int .i64 0, .slice none 0 0], []⟩ 8 (by kernel_rfl) (by kernel_rfl) (by kernel_rfl) (by kernel_rfl)) ?_
  intro W base args ds gs before hval0 hW hcnd _
  have hval : ∀ (j : Nat) t v, Tryz.f4.params[j]? = some t → args[j]? = some v → Value.okWide Tryz.prog W .any base t v := hval0
  have hW' := hW
  obtain ⟨p, q, hA0, hV, rfl, hfz, hnd⟩ := hW
  have hA : DataW.TrodAll enc Tryz.prog W 0 (fun _ => true) true Tryz.f4.params.toList args.toList ds p := hA0
  rw [Tryz.params4] at hA hval
  obtain ⟨v0, vs0, d0, ds0, p0, q0, hargs, rfl, rfl, h0, r0⟩ := trodAll_cons hA
  obtain ⟨v1, vs1, d1, ds1, p1, q1, rfl, rfl, rfl, h1, r1⟩ := trodAll_cons r0
  obtain ⟨v2, vs2, d2, ds2, p2, q2, rfl, rfl, rfl, h2, r2⟩ := trodAll_cons r1
  obtain ⟨rfl, rfl, rfl⟩ := trodAll_nil r2
  obtain rfl : args = #[v0, v1, v2] := by cases args; simp_all
  obtain ⟨rfl, rfl⟩ := trodVars_none hV
  have k0 := h0
  have lt0 : ∀ x ∈ p0, x.block < W.heap.size := by obtain ⟨m, hm⟩ := k0; exact DataW.trod_lt m _ _ _ hm
  have k1 := h1
  have lt1 : ∀ x ∈ p1, x.block < W.heap.size := by obtain ⟨m, hm⟩ := k1; exact DataW.trod_lt m _ _ _ hm
  have k2 := h2
  have lt2 : ∀ x ∈ p2, x.block < W.heap.size := by obtain ⟨m, hm⟩ := k2; exact DataW.trod_lt m _ _ _ hm
  obtain ⟨A0, n0, c0, os0, rfl, w0⟩ := open_fops (hval 0 22 v0 rfl rfl) h0
  obtain ⟨x1, rfl, ed1, ep1, w1⟩ := open_int Tryz.underlying3 (hval 1 3 v1 rfl rfl) h1
  obtain ⟨A2, n2, c2, bs2, rfl, w2⟩ := open_bytes (hval 2 48 v2 rfl rfl) h2
  clear hA0 hval0
  refine (walk A0 n0 c0 os0 x1 A2 n2 c2 bs2 W w0 w2 (bounds_i64 w1).1 (bounds_i64 w1).2).mono fun e W' ⟨he, bel⟩ => ?_
  subst he
  exact ⟨_, rfl, _, _, _, [], _, [], hW', trodAll_mk1 (shut_bool Tryz.underlying4 _), (trodAll_cons_mk (Below.trod laidOut (by kernel_rfl) (of_decide_eq_true (by kernel_rfl)) k0 bel lt0) (trodAll_cons_mk (Below.trod laidOut (by kernel_rfl) (of_decide_eq_true (by kernel_rfl)) k1 bel lt1) (trodAll_cons_mk (Below.trod laidOut (by kernel_rfl) (of_decide_eq_true (by kernel_rfl)) k2 bel lt2) trodAll_mk0))), rfl, bel.frame _, fun h => by cases h⟩
theorem over : Rows.fileCrashRow.holds Tryz.pinned (OpenSpec.ofChange Rows.fileCrashSpec) :=
  OpenClaim.holds_of_wide 4 Tryz.f4 rfl rfl rfl rfl rfl rfl rfl ⟨rfl, rfl, rfl, rfl, rfl⟩ rfl rfl rfl rfl rfl (by kernel_rfl) Tryz.func4 (by kernel_rfl)
    (of_decide_eq_true (by kernel_rfl)) (by unfold Func.isWrapper; first | (rw [if_pos (by decide +kernel)]; kernel_rfl) | (rw [if_neg (by decide +kernel)]; exact ⟨rfl, rfl⟩))
    (fun os started H enc _ => lifted os started H enc)
theorem proved : Rows.FileCrashSaid := over
#print axioms proved
end fileCrash
end Go.Proofs.YtncmihikpcdgoaaGreat
