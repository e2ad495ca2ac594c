/- Texts of the proof. -/
import Derived.Test.YtmpfcgjjejlhdaaGreatBao
import Derived.Test.YtmpfcgjjejlhdaaGreatBam
import Derived.Maps.AppendAt
import Derived.Test.YtmpfcgjjejlhdaaGreatBaf
import Derived.Shelf.Strings.IndexAnyAll
import Derived.Test.YtmpfcgjjejlhdaaGreatBan
import Derived.Laws.Runes
import Derived.Shelf.Small.Utf8
import Derived.WalkMore
import Derived.BigQuiet
import Derived.Lib.DecodeN
import Derived.Lib.IndexAny
import Derived.Lib.FieldsLaws
import Derived.Test.YtmpfcgjjejlhdaaGreatBah
import Derived.Test.YtmpfcgjjejlhdaaGreatBab
import Derived.Lib.SliceRun
set_option maxRecDepth 100000
set_option maxHeartbeats 16000000
namespace Go.Proofs.YtmpfcgjjejlhdaaGreat
section
open Go.RowKit Go.Maps
open Dk (zeros zeros_length)
open Ii (Ino)
theorem bit_zeros (b : Nat) : Bt.bit zeros b = false := by
  have hz : zeros.getD (b / 8) 0 = 0 := by
    unfold zeros
    rw [List.getD_eq_getElem?_getD, List.getElem?_replicate]
    split <;> rfl
  unfold Bt.bit
  rw [hz]
  simp
theorem root_file {s : Sto} {n I : Int} (h : FmtS s n I) (hpl : Pl.rightB n I = true) : Fs.Fl n I rootI (nv s) 0 fun _ => zeros := by
  obtain ⟨r1, r2, r3, r4⟩ := Pl.right_yes hpl
  have hd := Pl.data_bd r1 r2
  have hdn : Pl.dataN I = 43 + (I + 1) / 2 := rfl
  have h42 : nv s 42 = zeros := by
    rw [h.pg 42 (by omega) (by decide)]
    rfl
  have hn : ∀ j, j < 36 → Fs.nm rootI (nv s) j = 0 := fun j _ => by
    unfold Fs.nm
    by_cases h4 : j < 4
    · rw [if_pos h4]
      have : j = 0 ∨ j = 1 ∨ j = 2 ∨ j = 3 := by omega
      rcases this with rfl | rfl | rfl | rfl <;> rfl
    · rw [if_neg h4, if_pos (show rootI.e = 0 from rfl)]
  refine ⟨by omega, by omega, by omega, rfl, by rw [h42]; exact zeros_length, ?_, Or.inl rfl, fun q => absurd rfl q, fun j hj => Or.inl (hn j hj), fun j hj q => absurd (hn j hj) q, fun a b ha _ _ q => absurd (hn a ha) q, fun j hj => by rw [if_pos (hn j hj)], fun _ _ => zeros_length, ?_⟩
  · intro b hb
    rw [h42]
    rw [bit_zeros b]
    simp
  · have : (List.range 36).countP (fun j => decide (Fs.nm rootI (nv s) j ≠ 0)) = 0 := by
      rw [List.countP_eq_zero]
      intro j hj
      rw [List.mem_range] at hj
      simp [hn j hj]
    rw [this]
    rfl
theorem root_dir {s : Sto} {n I : Int} (h : FmtS s n I) (hpl : Pl.rightB n I = true) : Dm.Dr n I (nv s) rootI 0 (fun _ => zeros) [] [] := by
  obtain ⟨r1, r2, r3, r4⟩ := Pl.right_yes hpl
  have hd := Pl.data_bd r1 r2
  have hdn : Pl.dataN I = 43 + (I + 1) / 2 := rfl
  have h43 : nv s 43 = rootP := by
    rw [h.pg 43 (by omega) (by decide)]
    rfl
  have hat : Fs.inoAt (nv s) 1 = rootI := by
    rw [h.inode hpl 1 (by decide) (by omega), if_pos rfl]
  exact ⟨⟨root_file h hpl, by rw [h43]; exact rootP_length, hat, by omega, rfl, by decide, by decide, by decide, by decide⟩, rfl, Dm.Ok.nil, Dm.Bytes.nil _⟩
theorem Dm.Dr.out {n I : Int} {V W : Fs.View} {x : Ino} {u : Nat} {P : Nat → List UInt8} {E : List Dm.Ent} {H : Dm.Has} (h : Dm.Dr n I V x u P E H) (hW : ∀ i, Out n i → W i = V i) : Dm.Dr n I W x u P E H :=
  h.ext fun i h1 h2 => hW i ⟨h2, Or.inr (by omega)⟩
end

section
open Go.RowKit Go.Maps
open Dk (zeros zeros_length)
open Ii (Ino)
structure Two (n I : Int) (y : Ino) (V : Fs.View) : Prop where
  dir : Dm.Dr n I V rootI 0 (fun _ => zeros) [] []
  two : Fs.inoAt V 2 = y
  rest : ∀ i, 3 ≤ i → i ≤ I → Fs.inoAt V i = Ii.zero
theorem Two.out {n I : Int} {y : Ino} {V W : Fs.View} (h : Two n I y V) (hI : Pl.rightB n I = true) (h2 : 2 ≤ I) (hW : ∀ i, Out n i → W i = V i) : Two n I y W := by
  obtain ⟨r1, r2, r3, r4⟩ := Pl.right_yes hI
  have hd := Pl.data_bd r1 r2
  have hdn : Pl.dataN I = 43 + (I + 1) / 2 := rfl
  have hi : ∀ i, 1 ≤ i → i ≤ I → Fs.inoAt W i = Fs.inoAt V i := fun i h1 h2 => by
    have ht : Fs.tbl i = 43 + ((i - 1) / 2).toNat := by unfold Fs.tbl; omega
    have := hW (Fs.tbl i) ⟨by rw [ht]; omega, Or.inr (by rw [ht]; omega)⟩
    unfold Fs.inoAt
    rw [this]
  exact ⟨h.dir.out hW, by rw [hi 2 (by decide) h2]; exact h.two, fun i h1 h2 => by rw [hi i (by omega) h2]; exact h.rest i h1 h2⟩
theorem new_two {s : Sto} {n I : Int} (h : FmtS s n I) (hpl : Pl.rightB n I = true) (h2 : 2 ≤ I) (x : Ino) (hk : x.k ≠ 0) (hr : Ii.rightI n I (Fs.withP x Ii.zero) = true) :
    ∃ V L, Fs.newM n I x (nv s) = (.ok 2, V, L) ∧ Two n I (Fs.withP x Ii.zero) V := by
  obtain ⟨r1, r2, r3, r4⟩ := Pl.right_yes hpl
  have hd := Pl.data_bd r1 r2
  have hdn : Pl.dataN I = 43 + (I + 1) / 2 := rfl
  have h43 : nv s 43 = rootP := by
    rw [h.pg 43 (by omega) (by decide)]
    rfl
  obtain ⟨y, hy⟩ : ∃ y, Fs.withP x Ii.zero = y := ⟨_, rfl⟩
  have hyk : y.k ≠ 0 := by rw [← hy]; exact hk
  have hfit : Ii.fitsB y := by rw [← hy]; exact Ii.right_fits hr
  have e1 : Fs.rightM n I (Fs.withP x Ii.zero) (nv s) = (.ok y, nv s, []) := by
    unfold Fs.rightM
    rw [if_neg (by rw [hr]; simp; exact hk), hy]
    rfl
  have e2 : Fs.leastM I (nv s) = (.ok 2, nv s, []) := by
    show (Fs.leastG (nv s) I.toNat 1, nv s, []) = _
    obtain ⟨c, hc⟩ : ∃ c, I.toNat = c + 2 := ⟨I.toNat - 2, by omega⟩
    rw [hc]
    show ((if (Fs.inoAt (nv s) 1).k = 0 then Except.ok 1 else if (Fs.inoAt (nv s) (1 + 1)).k = 0 then Except.ok (1 + 1) else Fs.leastG (nv s) c (1 + 1 + 1)), nv s, []) = _
    rw [h.inode hpl 1 (by decide) (by omega), if_pos rfl, if_neg (show ¬ rootI.k = 0 by decide), h.inode hpl (1 + 1) (by decide) (by omega), if_neg (show ¬ ((1 : Int) + 1 = 1) by decide), if_pos (show Ii.zero.k = 0 from rfl)]
    rfl
  have hT : Fs.tbl 2 = 43 := by decide
  have hA : Fs.halfAt 2 = ((32 : Nat) : Int) := by decide
  have hg := Ii.get_put rootP 32 y rootP_length (by decide) hfit
  have ho := Ii.get_other rootP 32 0 y rootP_length (by decide) (by decide) (by decide)
  have hpl2 := Ii.putN_length rootP ((32 : Nat) : Int) y rootP_length (by decide)
  obtain ⟨q, hq⟩ : ∃ q, Ii.putN rootP ((32 : Nat) : Int) y = q := ⟨_, rfl⟩
  rw [hq] at hg ho hpl2
  have e3 : ∃ L, Fs.setI 2 y (nv s) = (.ok (), Fs.upd (nv s) 43 q, L) := by
    unfold Fs.setI
    rw [hT, hA, h43, hq]
    by_cases e : q = rootP
    · rw [if_pos e]
      refine ⟨[], ?_⟩
      have : Fs.upd (nv s) 43 q = nv s := by
        funext i
        unfold Fs.upd
        split
        · rename_i e'
          rw [e', h43, e]
        · rfl
      rw [this]
      rfl
    · rw [if_neg e]
      exact ⟨[43], rfl⟩
  obtain ⟨L, e3⟩ := e3
  obtain ⟨W, hW⟩ : ∃ W, Fs.upd (Fs.upd (nv s) 43 q) 41 (Bt.setB (Fs.upd (nv s) 43 q 41) (2 - 1) true) = W := ⟨_, rfl⟩
  have e4 : Fs.markM 41 (2 - 1) true (Fs.upd (nv s) 43 q) = (.ok (), W, [41]) := by
    rw [← hW]
    rfl
  have w43 : W 43 = q := by
    rw [← hW]
    unfold Fs.upd
    rw [if_neg (by decide), if_pos rfl]
  have wfar : ∀ i : Nat, i ≠ 41 → i ≠ 43 → W i = nv s i := fun i h1 h2 => by
    rw [← hW]
    unfold Fs.upd
    rw [if_neg h1, if_neg h2]
  refine ⟨W, [] ++ ([] ++ (L ++ ([41] ++ []))), ?_, ?_⟩
  · unfold Fs.newM
    rw [Fs.andThen_ok e1, Fs.andThen_ok e2, Fs.andThen_ok e3, Fs.andThen_ok e4]
    rfl
  · rw [hy]
    have hf := root_file h hpl
    refine ⟨⟨⟨hf.ext fun i hi => wfar i (by omega) (by omega), by rw [w43]; exact hpl2, ?_, by omega, rfl, by decide, by decide, by decide, by decide⟩, rfl, Dm.Ok.nil, Dm.Bytes.nil _⟩, ?_, ?_⟩
    · unfold Fs.inoAt
      rw [show Fs.tbl 1 = 43 by decide, show Fs.halfAt 1 = ((0 : Nat) : Int) by decide, w43, ho]
      have : Ii.getI rootP ((0 : Nat) : Int) = rootI := root_get
      rw [this, if_neg (show ¬ rootI.k = 0 by decide)]
    · unfold Fs.inoAt
      rw [hT, hA, w43, hg, if_neg hyk]
    · intro i h3 hI
      have ht : Fs.tbl i = 43 + ((i - 1) / 2).toNat := by unfold Fs.tbl; omega
      have := h.inode hpl i (by omega) hI
      rw [if_neg (by omega)] at this
      rw [← this]
      unfold Fs.inoAt
      rw [wfar _ (by rw [ht]; omega) (by rw [ht]; omega)]
end

namespace Fs
open Dk (zeros zeros_length)
open Ii (Ino)
def Frame {α : Type} (m : M α) : Prop := ∀ V j, j ∉ (m V).2.2 → (m V).2.1 j = V j
section
variable {n I : Int} (hpl : Pl.rightB n I = true)
include hpl
end
section
variable {n I : Int} (hpl : Pl.rightB n I = true)
include hpl
end
end Fs

namespace Fs
open Dk (zeros zeros_length)
open Ii (Ino)
section
variable {n I : Int} (hpl : Pl.rightB n I = true)
include hpl
end
section
variable {n I : Int} (hpl : Pl.rightB n I = true)
include hpl
end
end Fs
section
open Dk (zeros zeros_length)
open Ii (Ino)
theorem cntU_cov (N : Nat) {L D : List Nat} (h : Fs.Cov L D) : Fs.cntU (noPgs N) L ≤ D.length + 2 := by
  refine Nat.le_trans ?_ (cntU_le N (0 :: 42 :: D))
  unfold Fs.cntU
  apply List.countP_mono_left
  intro i _ hi
  simp only [List.contains_eq_mem, Bool.or_eq_true, decide_eq_true_eq, List.mem_cons] at hi ⊢
  rcases hi with hi | hi
  · exact Or.inl hi
  · exact Or.inr (h i hi)
theorem room_step {α : Type} {s : Sto} {n I : Int} (v : Vs s n I) (hi : Idle s) {m : Fs.M α} {er : Int} (h : Fails s m er) (hc : Fs.Cv m (nv s) 34) : ∃ V L, m (nv s) = (.error er, V, L) := by
  rcases h with h | ⟨_, h2⟩
  · exact h
  · exfalso
    obtain ⟨D, h3, h4⟩ := hc
    rw [hi, v.r] at h2
    have := cntU_cov s.dk.last.length h4
    omega
end

section
open Go.RowKit Go.Maps
open Dk (zeros zeros_length)
open Ii (Ino)
namespace Fs
end Fs
namespace Fs
end Fs
end

section
open Dk (zeros zeros_length)
open Ii (Ino)
namespace Fs
section
variable {n I : Int} (hpl : Pl.rightB n I = true)
include hpl
end
end Fs
section
variable {α : Type} {s u : Sto} {n I : Int} {k k' : Nat} {m : Fs.M α}
end
section
variable {n I : Int} {fl : Bool} {os : List Fop} {V0 U : Fs.View} {k : Nat} {o : Fop}
end
end

namespace Jn
open Go.Proofs.YtmpfcgjjejlhdaaGreat.Pg (getN setN numOf bytesN)
open Go.Proofs.YtmpfcgjjejlhdaaGreat.Hd (Head pageH readH wholeB rightB nextN)
theorem commitC {a z : Nat} {s : Dk.St} {cs : List Chg} {q : Int} (h : Cl s) (hlim : s.lim = false) (hm : May a z s.last.length cs) (hq0 : 0 ≤ q) (hq1 : q < 4294967290) (_hq : s.last.getD a [] = pageH (quietH q)) :
    (runs s (steps a q cs)).2 = 0 ∧ Cl (runs s (steps a q cs)).1 ∧ Quiet a z (q + 2) (runs s (steps a q cs)).1.last (upd s.last cs) ∧ (runs s (steps a q cs)).1.last.getD a [] = pageH (quietH (q + 2)) ∧ (runs s (steps a q cs)).1.lim = s.lim := by
  have hfit := hm.fit
  have hreg := hm.reg
  have hin : ∀ i, (a ≤ i ∧ i < a + z) → ∀ c ∈ cs, c.no.toNat ≠ i := fun i hi c hc => by have := hm.out c hc; omega
  have hlm : ∀ c ∈ layAt (a + 1) (layN cs), a + 1 ≤ c.no.toNat ∧ c.no.toNat < a + z := fun c hc => by
    have := layAt_mem _ _ _ hc
    rw [layN_length] at this
    omega
  have hlay : ∀ i, i < a + 1 ∨ a + z ≤ i → (upd s.last (layAt (a + 1) (layN cs))).getD i [] = s.last.getD i [] := fun i hi => upd_other _ _ _ (fun c hc => by have := hlm c hc; omega)
  have hlaid : ∀ i, i < nl cs.length + cs.length → (upd s.last (layAt (a + 1) (layN cs))).getD (a + 1 + i) [] = (layN cs).getD i [] := fun i hi => upd_layAt _ _ _ _ (by rw [layN_length]; exact hi) (by rw [layN_length]; omega)
  have hl1 : (upd s.last (layAt (a + 1) (layN cs))).length = s.last.length := upd_length _ _
  generalize hM1 : upd s.last (layAt (a + 1) (layN cs)) = M1 at hlay hlaid hl1
  -- behind the Live head
  have hl2 : (upd M1 [⟨(a : Int), pageH (liveH (q + 1) cs)⟩]).length = s.last.length := by rw [upd_length]; exact hl1
  have live2 : LiveD a z (q + 1) cs (upd M1 [⟨(a : Int), pageH (liveH (q + 1) cs)⟩]) (upd s.last cs) := by
    refine ⟨by rw [hl2, upd_length], ⟨q + 1, by omega, by omega, upd_one_at (by omega) _⟩, fun i hi => ?_, fun i hi hc => ?_⟩
    · rw [upd_one_other (by omega)]; exact hlaid i hi
    · rw [upd_one_other (by omega), hlay i (by omega), upd_other _ _ _ hc]
  generalize hM2 : upd M1 [⟨(a : Int), pageH (liveH (q + 1) cs)⟩] = M2 at hl2 live2
  have same3 : Same a z (upd M2 cs) (upd s.last cs) := fun i hi => by
    by_cases hc : ∃ c ∈ cs, c.no.toNat = i
    · exact upd_in cs _ _ i hl2 hc
    · have hc' : ∀ c ∈ cs, c.no.toNat ≠ i := fun x hx e => hc ⟨x, hx, e⟩
      rw [upd_other _ _ _ hc']
      exact live2.same i hi hc'
  have live3 : LiveD a z (q + 1) cs (upd M2 cs) (upd s.last cs) := by
    obtain ⟨p, p0, p1, hp⟩ := live2.head
    exact ⟨by rw [upd_length, upd_length]; exact hl2, ⟨p, p0, p1, by rw [upd_other _ _ _ (hin a (by omega))]; exact hp⟩, fun i hi => by rw [upd_other _ _ _ (hin _ (by omega))]; exact live2.laid i hi, fun i hi _ => same3 i hi⟩
  have head3 : (upd M2 cs).getD a [] = pageH (liveH (q + 1) cs) := by
    rw [upd_other _ _ _ (hin a (by omega)), ← hM2, upd_one_at (by omega)]
  have hl3 : (upd M2 cs).length = s.last.length := by rw [upd_length]; exact hl2
  rcases runs_spec (steps a q cs) s h (fun l hl => by
      unfold steps at hl
      simp only [List.mem_cons, List.not_mem_nil, or_false] at hl
      rcases hl with rfl | rfl | rfl | rfl
      · exact layAt_val (layN_pages fun c hc => (hm.val c hc).2) (by rw [layN_length]; omega)
      · exact val_one (by omega) _
      · exact hm.val
      · exact val_one (by omega) _) with ⟨a1, a2, a3, a4⟩ | ⟨a1, a2, a3, j, hj, a4⟩
  · have e4 : updAll s.last (steps a q cs) = upd (upd M2 cs) [⟨(a : Int), pageH (quietH (q + 2))⟩] := by rw [← hM2, ← hM1]; rfl
    rw [e4] at a4
    have hh : (runs s (steps a q cs)).1.last.getD a [] = pageH (quietH (q + 2)) := by rw [a4, upd_one_at (by omega)]
    refine ⟨a1, a2, ⟨by rw [a4, upd_length, upd_length, upd_length]; exact hl2, ?_, ?_, ?_⟩, hh, a3⟩
    · rw [hh]; exact page_low (by show 0 ≤ q + 2; omega) (by show q + 2 < _; omega) (Int.le_refl _)
    · rw [hh]; exact quietH_quiet (by omega) (by omega)
    · rw [a4]
      intro i hi
      rw [upd_one_other (by omega)]
      exact same3 i hi
  · rw [hlim] at a2; cases a2
end Jn
section
open Go.RowKit Go.Maps
open Dk (zeros zeros_length)
open Hd (Head rightB pageH)
open Jn (Chg quietH liveH Cl Quiet LiveD May Same upd)
theorem sync_calm {s : Sto} (h : Sound s) (hlim : s.dk.lim = false) (hq : s.q < 4294967290) :
    ssyncE s = 0 ∧ Sound (ssync s) ∧ Same s.a s.z (ssync s).dk.last (upd s.dk.last (chgs s.group)) ∧ (ssync s).dk.last.length = s.dk.last.length ∧ (ssync s).q ≤ s.q + 2 ∧ (ssync s).dk.lim = s.dk.lim := by
  have hnn : ¬ s.over = true := by rw [h.up]; simp
  by_cases hz : cntO s.group = 0
  · have hs : ssync s = s := by unfold ssync; rw [if_neg hnn, if_pos hz]
    have hcs : chgs s.group = [] := List.eq_nil_of_length_eq_zero (by rw [chgs_length]; exact hz)
    refine ⟨by unfold ssyncE; rw [if_neg hnn, if_pos hz], by rw [hs]; exact h, ?_, by rw [hs], by rw [hs]; omega, by rw [hs]⟩
    rw [hs, hcs]
    exact fun _ _ => rfl
  · have hm := h.may hz
    have hE : ssyncE s = (srun s).2 := by unfold ssyncE; rw [if_neg hnn, if_neg hz]
    have hS : ssync s = if (srun s).2 = 0 then { scommit s with group := noPgs s.dk.last.length } else scommit s := by unfold ssync; rw [if_neg hnn, if_neg hz]
    have hC : (srun s).1.last.length = s.dk.last.length := srun_len s
    have hok := scommit_ok h.ok
    have hcl := sclear_ok hok (n := s.dk.last.length) hC.symm
    obtain ⟨e1, e2, e3, e4, e5⟩ := Jn.commitC h.cl hlim hm h.q0 hq h.head
    rw [show Jn.runs s.dk (Jn.steps s.a s.q (chgs s.group)) = srun s from rfl] at e1 e2 e3 e4 e5
    rw [hE, hS, if_pos e1]
    have hq0 := h.q0
    refine ⟨e1, ⟨hcl, ?_, e2, ?_, e4⟩, e3.same, hC, Int.le_refl _, e5⟩
    · show ((srun s).2 != 0) = false
      rw [e1]; rfl
    · show 0 ≤ s.q + 2
      omega
theorem vsync_calm {s : Sto} {n I : Int} (v : Vs s n I) (hlim : s.dk.lim = false) (hq : s.q < 4294967290) :
    ssyncE s = 0 ∧ Vs (ssync s) n I ∧ (ssync s).step = s.step ∧ (ssync s).group = noPgs s.dk.last.length ∧ (∀ i, Out n i → (ssync s).dk.last.getD i [] = gv s i) ∧ (ssync s).q ≤ s.q + 2 ∧ (ssync s).dk.lim = s.dk.lim := by
  obtain ⟨e1, e2, e3, e4, e5, e6⟩ := sync_calm v.snd hlim hq
  obtain ⟨_, g1, _, g3, g4⟩ := ssync_fine v.snd.ok e1
  have ha : (ssync s).a = s.a ∧ (ssync s).z = s.z := by
    unfold ssync
    split
    · exact ⟨rfl, rfl⟩
    · split
      · exact ⟨rfl, rfl⟩
      · split
        · exact ⟨rfl, rfl⟩
        · exact ⟨rfl, rfl⟩
  refine ⟨e1, ⟨e2, ha.1.trans v.a, ha.2.trans v.z, g4.trans v.r, by rw [e4]; exact v.len, v.pl⟩, g3, ?_, fun i hi => ?_, e5, e6⟩
  · have := cntO_zero g1
    rw [e2.ok.glen, e4] at this
    exact this
  · have hi2 := hi.2
    rw [e3 i (by rw [v.a, v.z]; omega), upd_gv s v.snd.ok i]
theorem vkeep_calm {s : Sto} {n I : Int} (v : Vs s n I) (hlim : s.dk.lim = false) (hq : s.q < 4294967290) :
    skeepE s = 0 ∧ Vs (skeep s) n I ∧ Idle (skeep s) ∧ (∀ i, Out n i → gv (skeep s) i = nv s i) ∧ (skeep s).q ≤ s.q + 2 ∧ (skeep s).dk.lim = s.dk.lim := by
  have hup : ¬ s.over = true := by rw [v.snd.up]; simp
  unfold skeepE skeep
  rw [if_neg hup, if_neg hup]
  by_cases hr : s.r < stog s
  · rw [if_pos hr, if_pos hr]
    obtain ⟨e1, e2, e3, e4, e6, e7, e8⟩ := vsync_calm v hlim hq
    rw [if_pos e1]
    refine ⟨e1, ⟨e2.snd.join (sjoin_sync v.snd.ok e1), e2.a, e2.z, e2.r, e2.len, e2.pl⟩, rfl, fun i hi => ?_, e7, e8⟩
    rw [join_gv e2.snd.ok]
    unfold nv
    rw [e6 i hi]
    unfold sheld gv
    rw [e3, e4, noPgs_at]
    cases s.step.getD i none <;> rfl
  · rw [if_neg hr, if_neg hr]
    exact ⟨rfl, ⟨v.snd.join (by omega), v.a, v.z, v.r, v.len, v.pl⟩, rfl, fun i _ => join_gv v.snd.ok, by show s.q ≤ s.q + 2; omega, rfl⟩
theorem Calm.long {α : Type} {s : Sto} {n I : Int} {k : Nat} (h : Calm s n I k) (hk : k ≤ 1000000) {m : Fs.M α} {er : Int} {s2 : Sto} {a : Option α} (ht : StepTo n I s m er s2 a) :
    Calm s2 n I (k + 1) ∧ ((∃ x V L, m (nv s) = (.ok x, V, L) ∧ er = 0 ∧ a = some x ∧ ∀ i, Out n i → nv s2 i = V i) ∨ (Fails s m er ∧ er ≠ 0 ∧ a = none ∧ s2 = s)) := by
  rcases ht with ⟨x, s', L, e, g, v, hz, rfl, rfl, rfl⟩ | ⟨f, h0, rfl, rfl⟩ | ⟨x, s', L, e, g, v, hz, _⟩
  · obtain ⟨g1, g2, g3, g4, g5⟩ := g.keeps
    obtain ⟨_, k2, k3, k4, k5, k6⟩ := vkeep_calm v (by rw [g1]; exact h.lim) (by rw [g3]; have := h.q; omega)
    refine ⟨⟨k2, k3, by rw [g3] at k5; have := h.q; omega, by rw [k6, g1]; exact h.lim⟩, Or.inl ⟨x, _, L, e, rfl, rfl, fun i hi => ?_⟩⟩
    rw [idle_nv k3]; exact k4 i hi
  · rw [idle_drop h.idle]
    exact ⟨⟨h.vs, h.idle, by have := h.q; omega, h.lim⟩, Or.inr ⟨f, h0, rfl, rfl⟩⟩
  · obtain ⟨g1, g2, g3, g4, g5⟩ := g.keeps
    obtain ⟨k1, _⟩ := vkeep_calm v (by rw [g1]; exact h.lim) (by rw [g3]; have := h.q; omega)
    exact absurd k1 hz
theorem Calm.pureLong {α : Type} {u : Sto} {n I : Int} {k : Nat} {m : Fs.M α} (h : Calm u n I k) (hk : k ≤ 1000000) (hc : Fs.Cv m (nv u) 34) {er : Int} {u2 : Sto} {a : Option α} (ht : StepTo n I u m er u2 a) :
    Calm u2 n I (k + 1) ∧ ((∃ x V L, m (nv u) = (.ok x, V, L) ∧ er = 0 ∧ a = some x ∧ ∀ i, Out n i → nv u2 i = V i) ∨ (∃ V L, m (nv u) = (.error er, V, L) ∧ er ≠ 0 ∧ a = none ∧ u2 = u)) := by
  obtain ⟨q, h1⟩ := h.long hk ht
  refine ⟨q, ?_⟩
  rcases h1 with ⟨x, V, L, e, e1, e3, e2⟩ | ⟨f, h0, e3, e2⟩
  · exact Or.inl ⟨x, V, L, e, e1, e3, e2⟩
  · obtain ⟨V, L, e⟩ := room_step h.vs h.idle f hc
    exact Or.inr ⟨V, L, e, h0, e3, e2⟩
end

section
open Dk (zeros zeros_length)
open Go.Shelf Go.RowKit
def lay153_ren : Go.Shelf.Ren := ⟨fun | 153 => 62 | 152 => 106 | 226 => 107 | 227 => 108 | 228 => 109 | 137 => 146 | 119 => 147 | 224 => 148 | 225 => 149 | 217 => 172 | 266 => 190 | n => n, fun | 9 => 9 | 3 => 3 | 4 => 4 | 5 => 5 | 21 => 21 | 117 => 148 | 116 => 147 | 0 => 0 | 46 => 189 | 124 => 190 | n => n, fun | n => n⟩
theorem lay153 : Go.Proofs.Lays.n153 Tryz.prog lay153_ren := {
  mixed := by kernel_rfl
  f119 := Tryz.func147.trans (congrArg some (by kernel_rfl))
  f137 := Tryz.func146.trans (congrArg some (by kernel_rfl))
  f152 := Tryz.func106.trans (congrArg some (by kernel_rfl))
  f153 := Tryz.func62.trans (congrArg some (by kernel_rfl))
  f217 := Tryz.func172.trans (congrArg some (by kernel_rfl))
  f224 := Tryz.func148.trans (congrArg some (by kernel_rfl))
  f225 := Tryz.func149.trans (congrArg some (by kernel_rfl))
  f226 := Tryz.func107.trans (congrArg some (by kernel_rfl))
  f227 := Tryz.func108.trans (congrArg some (by kernel_rfl))
  f228 := Tryz.func109.trans (congrArg some (by kernel_rfl))
  f266 := Tryz.func190.trans (congrArg some (by kernel_rfl))
  t0 := Tryz.underlying0
  a0 := Tryz.isAgg0
  z0 := Tryz.sizeOf0
  v0 := Tryz.zeroValue0
  t3 := Tryz.underlying3
  a3 := Tryz.isAgg3
  z3 := Tryz.sizeOf3
  v3 := Tryz.zeroValue3
  t4 := Tryz.underlying4
  a4 := Tryz.isAgg4
  z4 := Tryz.sizeOf4
  v4 := Tryz.zeroValue4
  t5 := Tryz.underlying5
  a5 := Tryz.isAgg5
  z5 := Tryz.sizeOf5
  v5 := Tryz.zeroValue5
  t9 := Tryz.underlying9
  a9 := Tryz.isAgg9
  z9 := Tryz.sizeOf9
  v9 := Tryz.zeroValue9
  t21 := Tryz.underlying21
  a21 := Tryz.isAgg21
  z21 := Tryz.sizeOf21
  v21 := Tryz.zeroValue21
  t46 := Tryz.underlying189
  a46 := Tryz.isAgg189
  z46 := Tryz.sizeOf189
  v46 := Tryz.zeroValue189
  t116 := Tryz.underlying147
  a116 := Tryz.isAgg147
  z116 := Tryz.sizeOf147
  t117 := Tryz.underlying148
  a117 := Tryz.isAgg148
  z117 := Tryz.sizeOf148
  v117 := Tryz.zeroValue148
  t124 := Tryz.underlying190
  a124 := Tryz.isAgg190
  z124 := Tryz.sizeOf190
  v124 := Tryz.zeroValue190 }
theorem set_cells (w : World) : (zeroValue (lay153_ren.t 116)).run Tryz.prog w = .ok (.agg (Array.replicate 256 (.bool false))) w := by kernel_rfl
theorem set_info : (Tryz.prog.info? (lay153_ren.t 116)).map (·.size) = some 256 := by kernel_rfl
theorem any_long (s : ByteArray) (w : World) (h8 : 8 < s.size) (h13 : s.size ≤ 13) :
    Calls Tryz.prog (lay153_ren.f 153) #[.string s, .string ⟨#[0, 47]⟩] w fun e w' => e = .returned (.int .i64 (Lib.indexAny s.data.toList [0, 47])) ∧ Below w.heap.size w w' :=
  (Any.strings_IndexAny_long lay153 set_cells set_info s ⟨#[0, 47]⟩ w (by decide) h8 (by omega) (by decide) (fun j b h => by
    have : b = 0 ∨ b = 47 := by
      match j, h with
      | 0, h => left; injection h with h; exact h.symm
      | 1, h => right; injection h with h; exact h.symm
      | k + 2, h => simp at h
    rcases this with rfl | rfl <;> decide)).mono fun _ _ h => ⟨h.1, by rw [h.2]; exact ((Below.refl _ _).alloc (Nat.le_refl _) _).alloc (by simp) _⟩
end

section
open Dk (zeros zeros_length)
open Go.RowKit Go.Shelf
def two : ByteArray := ⟨#[0, 47]⟩
theorem indexByte_any (s : ByteArray) (c : Int) (w : World) : Calls Tryz.prog 146 #[.string s, .int .u8 c] w fun e w' => e = .returned (.int .i64 (Lib.indexByte s.data.toList c.toNat.toUInt8)) ∧ w' = w :=
  Any.strings_IndexByte (ρ := lay153_ren) { lay153 with } s c w
theorem validRune_any (r : Int) (w : World) : Calls Tryz.prog 147 #[.int .i32 r] w fun e w' => e = .returned (.bool (Utf8.valid r)) ∧ w' = w := by
  rw [validRune_eq]
  exact Any.utf8_ValidRune (ρ := lay153_ren) { lay153 with } r w
theorem ascii_any (c : UInt8) (w : World) (h : c.toNat < 128) : Calls Tryz.prog 106 #[.string ⟨#[0, 47]⟩, .int .i32 (c.toNat : Int)] w fun e w' => (∃ v : Int, e = .returned (.int .i64 v) ∧ (Nm.bad c = true → decide (0 ≤ v) = true) ∧ (Nm.bad c = false → decide (0 ≤ v) = false)) ∧ w = w' :=
  (Any.strings_IndexRune_ascii (ρ := lay153_ren) { lay153 with } ⟨#[0, 47]⟩ (c.toNat : Int) w (by omega) (by omega)).mono fun _ _ ⟨h1, h2⟩ => by
    refine ⟨⟨_, h1, ?_⟩, h2.symm⟩
    have e : ((c.toNat : Int)).toNat.toUInt8 = c := by simp
    rw [e, ← Lib.contains_iff_indexByte]
    show (Nm.bad c = true → ([0, 47] : List UInt8).contains c = true) ∧ (Nm.bad c = false → ([0, 47] : List UInt8).contains c = false)
    unfold Nm.bad
    have : ([0, 47] : List UInt8).contains c = (c == 0 || c == 47) := by rw [List.contains_cons, List.contains_cons, List.contains_nil, Bool.or_false]
    rw [this]
    exact ⟨id, id⟩
theorem far_error (w : World) : Calls Tryz.prog 106 #[.string ⟨#[0, 47]⟩, .int .i32 65533] w fun e w' => e = .returned (.int .i64 (-1)) ∧ Below w.heap.size w w' := by
  go_enter Tryz.func106, Tryz.ntmps106
  go_wp2_with fail
  go_loopg [5, 6] 2 (fun g _ _ wx => ∃ i : Nat, i + g = 2 ∧ wx = w.iter ⟨#[0, 47]⟩ i)
  case atStart => exact ⟨0, rfl, rfl⟩
  case round =>
    obtain ⟨i, hig, rfl⟩ := hrel
    have hi : i = 0 ∨ i = 1 ∨ i = 2 := by omega
    rcases hi with rfl | rfl | rfl
    · have hnx := fun ty => run_next_ascii (P := Tryz.prog) w ⟨#[0, 47]⟩ 0 ty (by decide) (by decide)
      change ∀ ty, _ = Result.ok (Value.tuple #[.bool true, .int .i64 ((0 : Nat) : Int), .int .i32 0]) _ at hnx
      obtain rfl : gk = 2 := by omega
      go_wp2
      go_roundg 1
      case measure => omega
      case rel => exact ⟨1, rfl, rfl⟩
    · have hnx := fun ty => run_next_ascii (P := Tryz.prog) w ⟨#[0, 47]⟩ 1 ty (by decide) (by decide)
      change ∀ ty, _ = Result.ok (Value.tuple #[.bool true, .int .i64 ((1 : Nat) : Int), .int .i32 47]) _ at hnx
      obtain rfl : gk = 1 := by omega
      go_wp2
      go_roundg 0
      case measure => omega
      case rel => exact ⟨2, rfl, rfl⟩
    · have hnx := fun ty => run_next_end (P := Tryz.prog) w ⟨#[0, 47]⟩ 2 ty (by decide)
      go_wp2
      go_ret
      exact ⟨rfl, (Below.refl _ _).alloc (Nat.le_refl _) _⟩
theorem far_long (r : Int) (w : World) (h1 : 128 ≤ r) (h2 : r ≠ 65533) (hv : Utf8.valid r = true) (hs : 3 ≤ (Utf8.encode r).size) : Calls Tryz.prog 106 #[.string ⟨#[0, 47]⟩, .int .i32 r] w fun e w' => e = .returned (.int .i64 (-1)) ∧ Below w.heap.size w w' := by
  have hf := encode_facts r hv h1
  have hs4 := hf.2.1
  have HV := Lib.hid hv
  have hr : (r == 65533) = false := beq_eq_false_iff_ne.2 h2
  clear hf hv h2
  go_enter Tryz.func106, Tryz.ntmps106
  go_wp2_with (go_at_call 147; refine (validRune_any _ _).mono ?_; rw [HV.out]; rintro e w' ⟨rfl, hw⟩; rw [hw]; clear hw)
  have hcv := fun w => run_convert_int_string (P := Tryz.prog) w 21 9 .i32 r (by rw [Tryz.underlying21]; rfl) Tryz.underlying9
  generalize Utf8.encode r = t at hs hs4 hcv ⊢
  go_step3
  go_wp2
  go_loop [9] (fun i => i = .int .i64 ((t.size : Int) - 1)) (fun _ => 0)
  case atStart => rfl
  case round =>
    subst hrel
    go_wp2
    go_ret
    exact ⟨rfl, Below.refl _ _⟩
theorem nbelow_drewN (w : World) (n : Nat) : Below w.heap.size w (w.drewN n) := ⟨rfl, rfl, rfl, Nat.le_refl _, fun _ _ => rfl⟩
theorem run_slice_two (w : World) : (Instr.sliceAt 9 (.string ⟨#[0, 47]⟩) (some (.int .i64 2)) none none).run Tryz.prog w = .ok (.string ⟨#[]⟩) w := by kernel_rfl
theorem byte_none (c : UInt8) (w : World) : Calls Tryz.prog 146 #[.string ⟨#[]⟩, .int .u8 (c.toNat : Int)] w fun e w' => e = .returned (.int .i64 (-1)) ∧ w' = w := indexByte_any ⟨#[]⟩ _ w
theorem two_facts (r : Int) (hv : Utf8.valid r = true) (h1 : 128 ≤ r) (hs : (Utf8.encode r).size = 2) : ∃ (t : ByteArray) (c : UInt8) (h : 1 < t.size), Utf8.encode r = t ∧ t.size = 2 ∧ t[1]'h = c ∧ 128 ≤ c.toNat := by
  have hf := encode_facts r hv h1
  have hx := hf.2.2 (by omega)
  have e : (Utf8.encode r).size - 1 = 1 := by omega
  simp only [e] at hx
  exact ⟨_, _, by omega, rfl, hs, rfl, hx⟩
theorem far_two (r : Int) (w : World) (h1 : 128 ≤ r) (h2 : r ≠ 65533) (hv : Utf8.valid r = true) (hs : (Utf8.encode r).size = 2) : Calls Tryz.prog 106 #[.string ⟨#[0, 47]⟩, .int .i32 r] w fun e w' => e = .returned (.int .i64 (-1)) ∧ Below w.heap.size w w' := by
  obtain ⟨t, c, hlt, he, hl2, hc, hc128⟩ := two_facts r hv h1 hs
  have HV := Lib.hid hv
  have hr : (r == 65533) = false := beq_eq_false_iff_ne.2 h2
  have hcv := fun w => run_convert_int_string (P := Tryz.prog) w 21 9 .i32 r (by rw [Tryz.underlying21]; rfl) Tryz.underlying9
  rw [he] at hcv
  have hne : ((((⟨#[0, 47]⟩ : ByteArray)[1]'(by decide)).toNat : Int) != (c.toNat : Int)) = true := bne_iff_ne.2 (by show (47 : Int) ≠ _; omega)
  have hl : (t.size : Int) = 2 := by omega
  clear he hs hv h2 hl2
  go_enter Tryz.func106, Tryz.ntmps106
  go_wp2_with (go_at_call 147; refine (validRune_any _ _).mono ?_; rw [HV.out]; rintro e w' ⟨rfl, hw⟩; rw [hw]; clear hw)
  go_step3
  go_wp2
  go_loop [9] (fun i => i = .int .i64 1) (fun _ => 0)
  case atStart => rfl
  case round =>
    subst hrel
    go_wp2
    go_step3
    go_wp2
    go_quiet (fail)
    have HB := Lib.hid (nbelow_drewN w nq)
    generalize w.drewN nq = w2 at HB ⊢
    go_wp2
    have hw1 : IntKind.i64.wrap (1 + 1) = 2 := by decide
    have hsl := fun w => run_slice_two w
    go_quiet ((go_at_call 146; refine Calls.quiet_of_same (byte_none c _)))
    go_wp2
    show bodyPost Tryz.prog Tryz.f106 (fun e w' => e = .returned (.int .i64 (-1)) ∧ Below w.heap.size w w') Exit.ret _ _
    go_ret
    exact ⟨rfl, HB.out.trans ((nbelow_drewN w2 _).mono HB.out.size)⟩
end

section
open Dk (zeros zeros_length)
open Go.RowKit Go.Shelf
theorem far_any (r : Int) (w : World) (h1 : 128 ≤ r) (hv : Utf8.valid r = true) : Calls Tryz.prog 106 #[.string ⟨#[0, 47]⟩, .int .i32 r] w fun e w' => e = .returned (.int .i64 (-1)) ∧ Below w.heap.size w w' := by
  by_cases h2 : r = 65533
  · subst h2; exact far_error w
  · have hf := encode_facts r hv h1
    by_cases h3 : 3 ≤ (Utf8.encode r).size
    · exact far_long r w h1 h2 hv h3
    · exact far_two r w h1 h2 hv (by omega)
theorem size_list (s : ByteArray) : s.data.toList.length = s.size := by simp
theorem decodeN_far (n b0 b1 b2 b3 : Nat) (h0 : 128 ≤ b0) :
    128 ≤ (Lib.decodeN n b0 b1 b2 b3).1 ∧ ((Lib.decodeN n b0 b1 b2 b3).1 < 55296 ∨ (57344 ≤ (Lib.decodeN n b0 b1 b2 b3).1 ∧ (Lib.decodeN n b0 b1 b2 b3).1 ≤ 1114111)) ∧ 1 ≤ (Lib.decodeN n b0 b1 b2 b3).2 ∧ (Lib.decodeN n b0 b1 b2 b3).2 ≤ 4 ∧
    (2 ≤ (Lib.decodeN n b0 b1 b2 b3).2 → 128 ≤ b1 ∧ 1 < n) ∧ (3 ≤ (Lib.decodeN n b0 b1 b2 b3).2 → 128 ≤ b2 ∧ 2 < n) ∧ (4 ≤ (Lib.decodeN n b0 b1 b2 b3).2 → 128 ≤ b3 ∧ 3 < n) := by
  unfold Lib.decodeN
  repeat' split
  all_goals (simp only; omega)
theorem get_list (s : ByteArray) (i : Nat) (h : i < s.size) : s.get! i = s.data.toList[i]'(by simpa using h) := by
  show s.get! i = s[i]'h
  simp [ByteArray.get!, getElem!_pos, h]
  rfl
structure Far (s : ByteArray) (i : Nat) (r k : Nat) : Prop where
  dec : Utf8.decode s i = (r, k)
  big : 128 ≤ r
  ok : Utf8.valid (r : Int) = true
  pos : 1 ≤ k
  room : i + k ≤ s.size
  bytes : ∀ j, (h : j < s.data.toList.length) → i ≤ j → j < i + k → 128 ≤ (s.data.toList[j]).toNat
theorem far_at (s : ByteArray) (i : Nat) (hi : i < s.size) (h : 128 ≤ (s[i]'hi).toNat) : ∃ r k, Far s i r k := by
  have hd := Lib.decode_at s i
  have hg : s.get! i = s[i]'hi := get_list s i hi
  obtain ⟨f1, f2, f3, f4, f5, f6, f7⟩ := decodeN_far (s.size - i) (s.get! i).toNat (s.get! (i + 1)).toNat (s.get! (i + 2)).toNat (s.get! (i + 3)).toNat (by rw [hg]; exact h)
  rw [← hd] at f1 f2 f3 f4 f5 f6 f7
  refine ⟨(Utf8.decode s i).1, (Utf8.decode s i).2, rfl, f1, ?_, f3, ?_, ?_⟩
  · unfold Utf8.valid
    rcases f2 with f2 | f2 <;> simp <;> omega
  · have : (Utf8.decode s i).2 = 1 ∨ (Utf8.decode s i).2 = 2 ∨ (Utf8.decode s i).2 = 3 ∨ (Utf8.decode s i).2 = 4 := by omega
    rcases this with e | e | e | e <;> rw [e] at f5 f6 f7 ⊢ <;> omega
  · intro j hj h1 h2
    have hjs : j < s.size := by simpa using hj
    have : j = i ∨ j = i + 1 ∨ j = i + 2 ∨ j = i + 3 := by omega
    rw [← get_list s j hjs]
    rcases this with e | e | e | e
    · subst e; rw [hg]; exact h
    · subst e; exact (f5 (by omega)).1
    · subst e; exact (f6 (by omega)).1
    · subst e; exact (f7 (by omega)).1
theorem bad_far (c : UInt8) (h : 128 ≤ c.toNat) : Nm.bad c = false := by
  unfold Nm.bad
  rw [Bool.or_eq_false_iff, beq_eq_false_iff_ne, beq_eq_false_iff_ne]
  constructor <;> (intro e; subst e; revert h; decide)
theorem bad_take1 (l : List UInt8) (k : Nat) (h : k < l.length) : Nm.badB (l.take (k + 1)) = (Nm.badB (l.take k) || Nm.bad l[k]) := by
  rw [List.take_succ_eq_append_getElem h]
  unfold Nm.badB
  rw [List.any_append]
  simp
theorem bad_in (l : List UInt8) (k : Nat) (h : k < l.length) (hb : Nm.bad l[k] = true) : Nm.badB l = true :=
  List.any_eq_true.2 ⟨_, List.getElem_mem h, hb⟩
theorem bad_step (l : List UInt8) (i : Nat) : ∀ k, i + k ≤ l.length → Nm.badB (l.take i) = false → (∀ j, (h : j < l.length) → i ≤ j → j < i + k → 128 ≤ (l[j]).toNat) → Nm.badB (l.take (i + k)) = false
  | 0, _, h0, _ => h0
  | k + 1, hl, h0, hb => by
    rw [← Nat.add_assoc, bad_take1 l (i + k) (by omega), bad_step l i k (by omega) h0 (fun j h h1 h2 => hb j h h1 (by omega)), bad_far _ (hb (i + k) (by omega) (by omega) (by omega))]
    rfl
theorem run_next_at {w W : World} {s : ByteArray} {i : Nat} (hW : W.heap[w.heap.size]? = some (.stringIter s i)) (hb : Below w.heap.size w W) (hi : i < s.size) (r k : Nat) (hd : Utf8.decode s i = (r, k)) :
    ∃ W2 : World, (∀ ty, (Instr.next (.pointer (some ⟨w.heap.size, 0, none⟩)) true ty).run Tryz.prog W = .ok (.tuple #[.bool true, .int .i64 i, .int .i32 r]) W2) ∧ W2.heap[w.heap.size]? = some (.stringIter s (i + k)) ∧ Below w.heap.size w W2 := by
  have hlt : w.heap.size < W.heap.size := (Array.getElem?_eq_some_iff.1 hW).1
  refine ⟨{ W with heap := W.heap.setIfInBounds w.heap.size (.stringIter s (i + k)) }, fun ty => ?_, ?_, ?_⟩
  · simp only [Instr.next, getObj, setObj, Sem.run_bind, Sem.run, hW, Result.andThen, hi, if_true, hd]
    simp [goInt]
  · simp [hlt]
  · obtain ⟨a1, a2, a3, a4, a5⟩ := hb
    refine ⟨a1, a2, a3, by simpa using a4, fun b hb => ?_⟩
    rw [← a5 b hb]
    simp [Array.getElem?_setIfInBounds]
    omega
theorem run_next_over {w W : World} {s : ByteArray} (hW : W.heap[w.heap.size]? = some (.stringIter s s.size)) (ty : TypeId) :
    (Instr.next (.pointer (some ⟨w.heap.size, 0, none⟩)) true ty).run Tryz.prog W = .ok (.tuple #[.bool false]) W := by
  simp [Instr.next, getObj, Sem.run, hW]
def AnyPost (s : ByteArray) (w : World) (e : Ending) (w' : World) : Prop := (∃ v : Int, e = .returned (.int .i64 v) ∧ decide (0 ≤ v) = Nm.badB s.data.toList) ∧ Below w.heap.size w w'
theorem any_short (s : ByteArray) (w : World) (h8 : s.size ≤ 8) : Calls Tryz.prog 62 #[.string s, .string ⟨#[0, 47]⟩] w (AnyPost s w) := by
  have h8z : decide ((8 : Int) < (s.size : Int)) = false := decide_eq_false (by omega)
  have HC := Lib.hid (size_list s)
  have HU := Lib.hid (fun (w : World) => Any.strings_shouldUseASCIISet (ρ := lay153_ren) { lay153 with } (s.size : Int) w)
  rw [h8z] at HU
  clear h8z
  go_enter Tryz.func62, Tryz.ntmps62
  go_wp2_with (go_at_call 107; refine (HU.out _).mono ?_; rintro e w' ⟨rfl, hw⟩; rw [hw]; clear hw)
  have hst : (w.iter s 0).heap[w.heap.size]? = some (.stringIter s 0) ∧ Below w.heap.size w (w.iter s 0) := ⟨World.iter_heap w s 0, (Below.refl _ _).alloc (Nat.le_refl _) _⟩
  have HS := Lib.hid hst
  clear hst
  generalize w.iter s 0 = w1 at HS ⊢
  go_loopg [9, 10] s.size (fun g _ _ wx => ∃ i : Nat, i + g = s.size ∧ Hid (wx.heap[w.heap.size]? = some (.stringIter s i) ∧ Below w.heap.size w wx) ∧ Hid (Nm.badB (s.data.toList.take i) = false))
  case atStart => exact ⟨0, by omega, HS, Lib.hid rfl⟩
  case round =>
    clear HS
    obtain ⟨i, hig, HS, HN⟩ := hrel
    by_cases hi : i < s.size
    · obtain ⟨x, hx⟩ : ∃ x : UInt8, s[i]'hi = x := ⟨_, rfl⟩
      have HX : Hid (s.data.toList[i]'(by rw [HC.out]; exact hi) = x) := Lib.hid hx
      by_cases h128 : x.toNat < 128
      · have hd := decode_ascii s i hi (by rw [hx]; exact h128)
        rw [hx] at hd
        obtain ⟨W2, hnx, hW1, hW2⟩ := run_next_at HS.out.1 HS.out.2 hi _ _ hd
        have HS2 := Lib.hid (And.intro hW1 hW2)
        have HA := Lib.hid (fun w => ascii_any x w h128)
        clear hd hx HS hW1 hW2
        cases hb : Nm.bad x with
        | true =>
          have HB : Hid (Nm.badB s.data.toList = true) := Lib.hid (bad_in _ i (by rw [HC.out]; exact hi) (by rw [HX.out]; exact hb))
          have HBX := Lib.hid hb
          clear hb
          go_wp2_with (go_at_call 106; refine (HA.out _).mono ?_; rintro e w' ⟨⟨v, rfl, hv, _⟩, rfl⟩; replace hv := hv HBX.out)
          go_ret
          exact ⟨⟨_, rfl, by rw [HB.out]; exact decide_eq_true (by omega)⟩, HS2.out.2⟩
        | false =>
          have HN2 : Hid (Nm.badB (s.data.toList.take (i + 1)) = false) := Lib.hid (by rw [bad_take1 _ i (by rw [HC.out]; exact hi), HN.out, HX.out, hb]; rfl)
          have HBX := Lib.hid hb
          clear hb
          go_wp2_with (go_at_call 106; refine (HA.out _).mono ?_; rintro e w' ⟨⟨v, rfl, _, hv⟩, rfl⟩; replace hv := hv HBX.out)
          go_roundg (gk - 1)
          case measure => omega
          case rel => exact ⟨i + 1, by omega, HS2, HN2⟩
      · obtain ⟨r, k, hf⟩ := far_at s i hi (by rw [hx]; omega)
        obtain ⟨W2, hnx, hW1, hW2⟩ := run_next_at HS.out.1 HS.out.2 hi _ _ hf.dec
        have HS2 := Lib.hid (And.intro hW1 hW2)
        have HF := Lib.hid hf
        have HA := Lib.hid (fun w => far_any (r : Int) w (by have := hf.big; omega) hf.ok)
        have hk1 := hf.pos
        have hk2 := hf.room
        have HN2 : Hid (Nm.badB (s.data.toList.take (i + k)) = false) := Lib.hid (bad_step _ i k (by rw [HC.out]; exact hf.room) HN.out hf.bytes)
        clear hf hx HS hW1 hW2
        go_wp2_with (go_at_call 106; refine (HA.out _).mono ?_; rintro e w' ⟨rfl, hw⟩; have HW := Lib.hid hw; clear hw)
        go_roundg (gk - k)
        case measure => omega
        case rel => exact ⟨i + k, by omega, Lib.hid ⟨(HW.out.block _ (Array.getElem?_eq_some_iff.1 HS2.out.1).1).trans HS2.out.1, HS2.out.2.trans (HW.out.mono HS2.out.2.size)⟩, HN2⟩
    · obtain rfl : i = s.size := by omega
      have hnx := run_next_over HS.out.1
      have HB : Hid (Nm.badB s.data.toList = false) := Lib.hid (by
        have := HN.out
        rw [List.take_of_length_le (by rw [HC.out]; omega)] at this
        exact this)
      go_wp2
      go_ret
      exact ⟨⟨_, rfl, by rw [HB.out]; rfl⟩, HS.out.2⟩
theorem index_bad : ∀ l : List UInt8, decide (0 ≤ Lib.indexAny l [0, 47]) = Nm.badB l
  | [] => rfl
  | b :: l => by
    have ih := index_bad l
    have hg := Lib.indexAny_ge [0, 47] l
    have e : ([0, 47] : List UInt8).contains b = Nm.bad b := by
      unfold Nm.bad
      rw [List.contains_cons, List.contains_cons, List.contains_nil, Bool.or_false]
    unfold Nm.badB at ih ⊢
    rw [List.any_cons, ← ih, Lib.indexAny, e]
    cases Nm.bad b with
    | true => rfl
    | false =>
      rw [if_neg (by decide), Bool.false_or, decide_eq_decide]
      by_cases h : Lib.indexAny l [0, 47] = -1
      · rw [h]; decide
      · rw [if_neg (fun k => h (beq_iff_eq.1 k))]
        omega
theorem indexAny_any (s : ByteArray) (w : World) (h : s.size ≤ 13) : Calls Tryz.prog 62 #[.string s, .string ⟨#[0, 47]⟩] w (AnyPost s w) := by
  by_cases h8 : s.size ≤ 8
  · exact any_short s w h8
  · exact (any_long s w (by omega) h).mono fun _ _ k => ⟨⟨_, k.1, index_bad _⟩, k.2⟩
theorem contains_any (s : ByteArray) (w : World) (hs : s.size ≤ 13) :
    Calls Tryz.prog 24 #[.string s, .string ⟨#[0, 47]⟩] w fun e w' => e = .returned (.bool (Nm.badB s.data.toList)) ∧ Below w.heap.size w w' := by
  have HI := Lib.hid (indexAny_any s w hs)
  cases hb : Nm.badB s.data.toList with
  | true =>
    have HB := Lib.hid hb
    clear hb
    go_enter Tryz.func24, Tryz.ntmps24
    go_wp2_with (go_at_call 62; refine HI.out.mono ?_; rintro e w' ⟨⟨v, rfl, hv⟩, hw⟩; rw [HB.out] at hv; replace hv := of_decide_eq_true hv; have HW := Lib.hid hw; clear hw)
    go_ret
    exact ⟨rfl, HW.out⟩
  | false =>
    have HB := Lib.hid hb
    clear hb
    go_enter Tryz.func24, Tryz.ntmps24
    go_wp2_with (go_at_call 62; refine HI.out.mono ?_; rintro e w' ⟨⟨v, rfl, hv⟩, hw⟩; rw [HB.out] at hv; replace hv := of_decide_eq_false hv; have HW := Lib.hid hw; clear hw)
    go_ret
    exact ⟨ret_bool (decide_eq_false (by omega)), HW.out⟩
end

section
open Dk (zeros zeros_length)
open Go.RowKit
theorem empty_list (s : ByteArray) : s.toList.isEmpty = decide (s.size = 0) := by
  rw [Lib.toList_data, ← size_list]
  cases s.data.toList <;> rfl
structure ChkF (s : ByteArray) : Prop where
  e0 : s.toList.isEmpty = false
  e1 : (s.toList == [46]) = false
  e2 : (s.toList == [46, 46]) = false
  c : Nm.chk s.data.toList = if Nm.badB s.data.toList = true then 22 else 0
theorem chk_far (s : ByteArray) (h : 13 < s.size) : Nm.chk s.data.toList = 36 := by
  unfold Nm.chk
  rw [size_list, if_neg (by omega), if_pos h]
theorem chk_none (s : ByteArray) (h : s.size = 0) : Nm.chk s.data.toList = 2 := by
  unfold Nm.chk
  rw [size_list, if_pos h]
theorem chk_dot (s : ByteArray) (h0 : s.size ≠ 0) (h : s.size ≤ 13) (h1 : s.data.toList = [46] ∨ s.data.toList = [46, 46]) : Nm.chk s.data.toList = 22 := by
  unfold Nm.chk
  rw [size_list, if_neg h0, if_neg (by omega), if_pos (h1.elim Or.inl (fun h => Or.inr (Or.inl h)))]
theorem chk_rest (s : ByteArray) (h0 : s.size ≠ 0) (h : s.size ≤ 13) (h1 : s.data.toList ≠ [46]) (h2 : s.data.toList ≠ [46, 46]) : ChkF s where
  e0 := by rw [empty_list]; exact decide_eq_false h0
  e1 := by rw [Lib.toList_data]; exact beq_eq_false_iff_ne.2 h1
  e2 := by rw [Lib.toList_data]; exact beq_eq_false_iff_ne.2 h2
  c := by
    unfold Nm.chk
    rw [size_list, if_neg h0, if_neg (by omega)]
    cases Nm.badB s.data.toList <;> simp [h1, h2]
theorem check_any (s : ByteArray) (w : World) (hm : s.size ≤ maxLen) :
    Calls Tryz.prog 8 #[.string s] w fun e w' => e = .returned (.int .i64 (Nm.chk s.data.toList)) ∧ Below w.heap.size w w' := by
  unfold maxLen at hm
  by_cases h0 : s.size = 0
  · have e0 : s.toList.isEmpty = true := by rw [empty_list]; exact decide_eq_true h0
    rw [chk_none s h0]
    clear h0
    go_enter Tryz.func8, Tryz.ntmps8
    go_wp2
    go_ret
    exact ⟨rfl, Below.refl _ _⟩
  have e0 : s.toList.isEmpty = false := by rw [empty_list]; exact decide_eq_false h0
  by_cases h13 : 13 < s.size
  · rw [chk_far s h13]
    have hI : (13 : Int) < (s.size : Int) := by omega
    go_enter Tryz.func8, Tryz.ntmps8
    go_wp2
    go_ret
    exact ⟨rfl, Below.refl _ _⟩
  have hI : (s.size : Int) ≤ 13 := by omega
  have HS : Hid (s.size ≤ 13) := Lib.hid (by omega)
  by_cases h1 : s.data.toList = [46]
  · rw [chk_dot s h0 (by omega) (Or.inl h1)]
    have e1 : (s.toList == [46]) = true := by rw [Lib.toList_data, h1]; rfl
    clear h1 h0 h13
    go_enter Tryz.func8, Tryz.ntmps8
    go_wp2
    go_ret
    exact ⟨rfl, Below.refl _ _⟩
  by_cases h2 : s.data.toList = [46, 46]
  · rw [chk_dot s h0 (by omega) (Or.inr h2)]
    have e1 : (s.toList == [46]) = false := by rw [Lib.toList_data, h2]; rfl
    have e2 : (s.toList == [46, 46]) = true := by rw [Lib.toList_data, h2]; rfl
    clear h1 h2 h0 h13
    go_enter Tryz.func8, Tryz.ntmps8
    go_wp2
    go_ret
    exact ⟨rfl, Below.refl _ _⟩
  obtain ⟨e0', e1, e2, hc⟩ := chk_rest s h0 (by omega) h1 h2
  rw [hc]
  clear e0' hc h1 h2 h0 h13
  cases hb : Nm.badB s.data.toList with
  | true =>
    have HB := Lib.hid hb
    clear hb
    go_enter Tryz.func8, Tryz.ntmps8
    go_wp2_with (go_at_call 24; refine (contains_any _ _ HS.out).mono ?_; rw [HB.out]; rintro e w1 ⟨rfl, hw⟩; have HW := Lib.hid hw; clear hw)
    go_ret
    exact ⟨rfl, HW.out⟩
  | false =>
    have HB := Lib.hid hb
    clear hb
    go_enter Tryz.func8, Tryz.ntmps8
    go_wp2_with (go_at_call 24; refine (contains_any _ _ HS.out).mono ?_; rw [HB.out]; rintro e w1 ⟨rfl, hw⟩; have HW := Lib.hid hw; clear hw)
    go_ret
    exact ⟨rfl, HW.out⟩
end

section
open Dk (zeros zeros_length)
open Go.RowKit
def entL (n : Int) (s : ByteArray) : List Value := [.int .i64 n, .string s]
def entV (n : Int) (s : ByteArray) : Value := .agg #[.int .i64 n, .string s]
theorem entL_one (n : Int) (s : ByteArray) : ∀ v ∈ entL n s, v.oneCell' = true := by
  intro v hv
  simp only [entL, List.mem_cons, List.not_mem_nil, or_false] at hv
  rcases hv with rfl | rfl <;> rfl
theorem entT : RowT 41 2 := ⟨⟨_, Tryz.underlying41, rfl⟩, by kernel_rfl⟩
theorem right_eq (n : Int) (s : List UInt8) (h1 : 1 ≤ n) (h2 : n ≤ 65535) : Nm.rightB n s = (Nm.chk s == 0) := by
  unfold Nm.rightB
  cases h : (Nm.chk s == 0) with
  | true => exact decide_eq_true ⟨h1, h2, beq_iff_eq.1 h⟩
  | false => exact decide_eq_false (fun k => beq_eq_false_iff_ne.1 h k.2.2)
theorem right_low (n : Int) (s : List UInt8) (h : n < 1 ∨ 65535 < n) : Nm.rightB n s = false := decide_eq_false (by omega)
theorem nright_any (n : Int) (s : ByteArray) (w : World) (hm : s.size ≤ maxLen) :
    Calls Tryz.prog 87 #[entV n s] w fun e w' => e = .returned (.bool (Nm.rightB n s.data.toList)) ∧ Below w.heap.size w w' := by
  have HM := Lib.hid hm
  clear hm
  have HB : Hid (Below w.heap.size w (w.alloc (.cells (entL n s).toArray 41))) := Lib.hid ((Below.refl _ _).alloc (Nat.le_refl _) _)
  by_cases h1 : 1 ≤ n
  · by_cases h2 : n ≤ 65535
    · rw [right_eq n _ h1 h2]
      have HC := Lib.hid (fun (w : World) => check_any s w HM.out)
      generalize Nm.chk s.data.toList = c at HC ⊢
      unfold entV
      cases hc : (c == 0) with
      | true =>
        go_enter Tryz.func87, Tryz.ntmps87
        go_wp2_with (go_at_call 8; refine (HC.out _).mono ?_; rintro e w1 ⟨rfl, hw⟩; have HW := Lib.hid hw; clear hw)
        go_ret
        exact ⟨rfl, HB.out.trans (HW.out.mono HB.out.size)⟩
      | false =>
        go_enter Tryz.func87, Tryz.ntmps87
        go_wp2_with (go_at_call 8; refine (HC.out _).mono ?_; rintro e w1 ⟨rfl, hw⟩; have HW := Lib.hid hw; clear hw)
        go_ret
        exact ⟨rfl, HB.out.trans (HW.out.mono HB.out.size)⟩
    · rw [right_low n _ (by omega)]
      unfold entV
      go_enter Tryz.func87, Tryz.ntmps87
      go_wp2
      go_ret
      exact ⟨rfl, HB.out⟩
  · rw [right_low n _ (by omega)]
    unfold entV
    go_enter Tryz.func87, Tryz.ntmps87
    go_wp2
    go_ret
    exact ⟨rfl, HB.out⟩
def thereB (i : Int) : Bool := decide (0 ≤ i ∧ i < 4)
theorem isThere_any (i : Int) (w : World) : Calls Tryz.prog 136 #[.int .i64 i] w fun e w' => e = .returned (.bool (thereB i)) ∧ w = w' := by
  by_cases h1 : 0 ≤ i
  · by_cases h2 : i < 4
    · rw [show thereB i = true from decide_eq_true ⟨h1, h2⟩]
      go_enter Tryz.func136, Tryz.ntmps136
      go_wp2
      go_ret
      exact ⟨rfl, rfl⟩
    · rw [show thereB i = false from decide_eq_false (by omega)]
      go_enter Tryz.func136, Tryz.ntmps136
      go_wp2
      go_ret
      exact ⟨rfl, rfl⟩
  · rw [show thereB i = false from decide_eq_false (by omega)]
    go_enter Tryz.func136, Tryz.ntmps136
    go_wp2
    go_ret
    exact ⟨rfl, rfl⟩
theorem stand_any (n : Int) (s : ByteArray) (w : World) (hm : s.size ≤ maxLen) :
    Calls Tryz.prog 137 #[entV n s] w fun e w' => e = .returned (.bool (Nm.standB n s.data.toList)) ∧ Below w.heap.size w w' := by
  have HM := Lib.hid hm
  clear hm
  have HB : Hid (Below w.heap.size w (w.alloc (.cells (entL n s).toArray 41))) := Lib.hid ((Below.refl _ _).alloc (Nat.le_refl _) _)
  have HR := Lib.hid (fun (w : World) => nright_any n s w HM.out)
  by_cases hn : n = 0
  · subst hn
    by_cases hs : s.toList = []
    · rw [show Nm.standB 0 s.data.toList = true by rw [← Lib.toList_data, hs]; rfl]
      unfold entV
      go_enter Tryz.func137, Tryz.ntmps137
      go_wp2
      go_ret
      exact ⟨rfl, HB.out⟩
    · rw [show Nm.standB 0 s.data.toList = Nm.rightB 0 s.data.toList by
        unfold Nm.standB Nm.zeroB
        rw [decide_eq_false (fun h => hs (by rw [Lib.toList_data]; exact h.2)), Bool.false_or]]
      change Hid (∀ w, Calls Tryz.prog _ #[.agg #[.int .i64 0, .string s]] w _) at HR
      unfold entV
      go_enter Tryz.func137, Tryz.ntmps137
      go_wp2_with (go_at_call 87; refine (HR.out _).mono ?_; rintro e w1 ⟨rfl, hw⟩; have HW := Lib.hid hw; clear hw)
      go_ret
      exact ⟨rfl, HB.out.trans (HW.out.mono HB.out.size)⟩
  · rw [show Nm.standB n s.data.toList = Nm.rightB n s.data.toList by
      unfold Nm.standB Nm.zeroB
      rw [decide_eq_false (fun h => hn h.1), Bool.false_or]]
    change Hid (∀ w, Calls Tryz.prog _ #[.agg #[.int .i64 n, .string s]] w _) at HR
    unfold entV
    go_enter Tryz.func137, Tryz.ntmps137
    go_wp2_with (go_at_call 87; refine (HR.out _).mono ?_; rintro e w1 ⟨rfl, hw⟩; have HW := Lib.hid hw; clear hw)
    go_ret
    exact ⟨rfl, HB.out.trans (HW.out.mono HB.out.size)⟩
end

section
open Dk (zeros zeros_length)
open Go.RowKit
structure NputS (w0 : World) (q : List UInt8) (n : Int) (s : ByteArray) (W : World) : Prop where
  page : PageAt W w0.heap.size q
  ent : RowAt W (w0.heap.size + 1) (entL n s)
  out : PageAt W (w0.heap.size + 2) zeros
  below : Below w0.heap.size w0 W
theorem NputS.call {w0 : World} {q : List UInt8} {n : Int} {s : ByteArray} {W W' : World} (k : NputS w0 q n s W) (hb : Below W.heap.size W W') : NputS w0 q n s W' :=
  ⟨k.page.step hb, RowAt.step k.ent hb, k.out.step hb, k.below.trans (hb.mono k.below.size)⟩
theorem NputS.put {w0 : World} {q : List UInt8} {n : Int} {s : ByteArray} {W : World} (k : NputS w0 q n s W) (r : List UInt8) (hr : r.length = 64) : NputS w0 r n s (W.setCells w0.heap.size 0 (byteVals r)) :=
  ⟨k.page.put r hr, k.ent.put_other _ _ _ (by omega), k.out.put_other _ _ _ (by omega), below_setCells _ (Nat.le_refl _) _ _ _ k.below⟩
theorem NputS.back {w0 : World} {q : List UInt8} {n : Int} {s : ByteArray} {W : World} (k : NputS w0 q n s W) (r : List UInt8) (hr : r.length = 64) :
    PageAt (W.setCells (w0.heap.size + 2) 0 (byteVals r)) (w0.heap.size + 2) r ∧ Below w0.heap.size w0 (W.setCells (w0.heap.size + 2) 0 (byteVals r)) :=
  ⟨k.out.put r hr, below_setCells _ (by omega) _ _ _ k.below⟩
theorem nputS_box (w : World) (p : List UInt8) (n : Int) (s : ByteArray) (hp : p.length = 64) :
    NputS w p n s (((w.alloc (.cells (byteVals p).toArray 97)).alloc (.cells #[.int .i64 n, .string s] 41)).alloc (.cells zeroCells 97)) where
  page := ((pageAt_new w p _ hp).alloc _).alloc _
  ent := by
    have h := (rowAt_new (w.alloc (.cells (byteVals p).toArray 97)) (entL n s) 41).alloc (.cells zeroCells 97)
    rw [World.size_alloc] at h
    exact h
  out := by
    have h := pageAt_zeros ((w.alloc (.cells (byteVals p).toArray 97)).alloc (.cells #[.int .i64 n, .string s] 41)) 97
    simp at h
    exact h
  below := (((Below.refl _ _).alloc (Nat.le_refl _) _).alloc (by simp) _).alloc (by simp; omega) _
theorem nzero8 (w : World) : (zeroValue 5).run Tryz.prog w = .ok (.int .u8 0) w := by kernel_rfl
theorem clear_slot {w0 W : World} {q : List UInt8} {m : Int} {s : ByteArray} (k : NputS w0 q m s W) (A : Nat) (hA : A + 16 ≤ 64) (ty : TypeId) (c : Nat) :
    (Builtin.clear_ #[158] ty #[.slice (some ⟨w0.heap.size, A, none⟩) 16 c]).run Tryz.prog W = .ok (.tuple #[]) (W.setCells w0.heap.size A (byteVals (Nm.zs 16))) :=
  Lib.run_clear_slice W _ _ ty (.int .u8 0) Tryz.underlying158 nzero8 rfl rfl w0.heap.size A 16 c (by omega) (fun j hj => k.page.isSome (A + j) (by omega)) (fun j hj => k.page.frozen (A + j) (by omega))
theorem NputS.cleared {w0 W : World} {q : List UInt8} {m : Int} {s : ByteArray} (k : NputS w0 q m s W) (A : Nat) (hA : A + 16 ≤ 64) : NputS w0 (Pg.over q A (Nm.zs 16)) m s (W.setCells w0.heap.size A (byteVals (Nm.zs 16))) :=
  ⟨k.page.over A (Nm.zs 16) (by rw [Nm.zs_length]; exact hA), k.ent.put_other _ _ _ (by omega), k.out.put_other _ _ _ (by omega), below_setCells _ (Nat.le_refl _) _ _ _ k.below⟩
theorem nrun_clear_op {w0 W : World} {q : List UInt8} {m : Int} {s : ByteArray} {ρ : Operand → Value} {op : Oper} (k : NputS w0 q m s W) (A : Nat) (hA : A + 16 ≤ 64) (n : Nat) (v : Operand) (c : Call) (ho : op.op = .call c) (hc : c.callee = .builtin .clear) (ha : c.args = #[v]) (ht : c.argTypes = #[158])
    (hv : ρ v = .slice (some ⟨w0.heap.size, A, none⟩) 16 n) : (execOp ρ op).run Tryz.prog W = .ok (.value (.tuple #[])) (W.setCells w0.heap.size A (byteVals (Nm.zs 16))) := by
  have h := fun ty => clear_slot k A hA ty n
  unfold execOp
  simp [ho, resolve, hc, ha, ht, hv, Go.invoke, Go.builtin, h]
theorem nwpList_clear_put {ops : Array Oper} {rest : List Oper} {op : Oper} {a : Act} {Q : Exit → Act → World → Prop} {w0 W : World} {q : List UInt8} {m : Int} {s : ByteArray} (k : NputS w0 q m s W) (A : Nat) (hA : A + 16 ≤ 64) (n : Nat) (hgd : op.guard = none) (v : Operand) (c : Call) (ho : op.op = .call c) (hc : c.callee = .builtin .clear) (ha : c.args = #[v]) (ht : c.argTypes = #[158])
    (hv : a.eval v = .slice (some ⟨w0.heap.size, A, none⟩) 16 n) (h : ∀ W2, NputS w0 (Pg.over q A (Nm.zs 16)) m s W2 → wpList Tryz.prog ops Q rest (a.put op.dst (.tuple #[])) W2) : wpList Tryz.prog ops Q (op :: rest) a W :=
  wpList_plain hgd fun _ hK => by
    unfold Oper.wp
    rw [nrun_clear_op k A hA n v c ho hc ha ht hv]
    exact hK _ _ (h _ (k.cleared A hA))
theorem nwpList_store_put {ops : Array Oper} {rest : List Oper} {op : Oper} {a : Act} {Q : Exit → Act → World → Prop} {w0 W : World} {q r : List UInt8} {m : Int} {s : ByteArray} (k : NputS w0 q m s W) (hr : r.length = 64) (hgd : op.guard = none) (x y : Operand) (ho : op.op = .store 97 x y)
    (hx : a.eval x = .pointer (some ⟨w0.heap.size, 0, none⟩)) (hy : a.eval y = pageV r) (h : ∀ W2, NputS w0 r m s W2 → wpList Tryz.prog ops Q rest (a.put op.dst undef) W2) : wpList Tryz.prog ops Q (op :: rest) a W :=
  wpList_store_page k.page hr hgd x y ho hx hy (h _ (k.put r hr))
theorem put_yes (p : List UInt8) (i : Int) (A : Nat) (n : Int) (s : ByteArray) (w : World) (hp : p.length = 64) (h0 : 0 ≤ i) (h4 : i < 4) (hA : i * 16 = (A : Int)) (hn : Nm.standB n s.data.toList = true) (hm : s.size ≤ maxLen) :
    Calls Tryz.prog 94 #[pageV p, .int .i64 i, entV n s] w fun e w' => e = .returned (pageV (Pg.setTextN (Pg.setN (Pg.setN (Pg.over p A (Nm.zs 16)) A 2 n) ((A : Int) + 2) 1 s.size) ((A : Int) + 3) s.data.toList)) ∧ Below w.heap.size w w' := by
  have hs := nputS_box w p n s hp
  rw [zeroCells_def] at hs
  have HS := Lib.hid hs; clear hs
  have HT := Lib.hid (fun w => isThere_any i w)
  rw [show thereB i = true from decide_eq_true ⟨h0, h4⟩] at HT
  have HM := Lib.hid (fun w => stand_any n s w hm)
  rw [hn] at HM
  have hA64 : A + 16 ≤ 64 := by omega
  obtain ⟨q1, E1⟩ : ∃ y, Hid (y = Pg.over p A (Nm.zs 16)) := ⟨_, Lib.hid rfl⟩
  have L1 : Hid (q1.length = 64) := Lib.hid (by rw [E1.out, Pg.over_length _ _ _ (by rw [Nm.zs_length]; omega), hp])
  obtain ⟨q2, E2⟩ : ∃ y, Hid (y = Pg.setN q1 A 2 n) := ⟨_, Lib.hid rfl⟩
  have L2 : Hid (q2.length = 64) := Lib.hid (by rw [E2.out]; exact Pg.setN_length _ _ _ _ L1.out)
  have C2 := Lib.hid (fun w => set_any q1 (A : Int) 2 n w L1.out (by decide) (by decide))
  rw [← E2.out] at C2
  obtain ⟨q3, E3⟩ : ∃ y, Hid (y = Pg.setN q2 ((A : Int) + 2) 1 s.size) := ⟨_, Lib.hid rfl⟩
  have L3 : Hid (q3.length = 64) := Lib.hid (by rw [E3.out]; exact Pg.setN_length _ _ _ _ L2.out)
  have C3 := Lib.hid (fun w => set_any q2 ((A : Int) + 2) 1 s.size w L2.out (by decide) (by decide))
  rw [← E3.out] at C3
  obtain ⟨q4, E4⟩ : ∃ y, Hid (y = Pg.setTextN q3 ((A : Int) + 3) s.data.toList) := ⟨_, Lib.hid rfl⟩
  have L4 : Hid (q4.length = 64) := Lib.hid (by rw [E4.out]; exact Pg.setTextN_length _ _ _ L3.out)
  have C4 := Lib.hid (fun w => setText_any q3 ((A : Int) + 3) s w L3.out hm)
  rw [← E4.out] at C4
  rw [← E1.out, ← E2.out, ← E3.out, ← E4.out]
  clear E2 E3 E4 hp hn hm
  unfold pageV entV
  go_enter Tryz.func94, Tryz.ntmps94
  go_wp2_with (first
    | (go_at_call 136; refine (HT.out _).mono ?_; rintro e w' ⟨rfl, rfl⟩)
    | (go_at_call 137; refine (HM.out _).mono ?_; rintro e w2 ⟨rfl, hb⟩; have S := Lib.hid (HS.out.call hb); clear hb HS; have hsl : (Instr.sliceAt 97 (.pointer (some ⟨w.heap.size, 0, none⟩)) (some (.int .i64 (A : Int))) (some (.int .i64 ((A : Int) + 16))) none).run Tryz.prog w2 = .ok (.slice (some ⟨w.heap.size, A, none⟩) 16 (64 - A)) w2 := run_slice_page w2 w.heap.size A 16 (by decide) hA64)
    | ((with_reducible refine nwpList_clear_put S.out A hA64 (64 - A) rfl (.tmp 22) _ rfl rfl rfl rfl ?_ ?_); (exact rfl); clear hsl; intro W2 S2; rw [← E1.out] at S2; replace S := Lib.hid S2; clear S2 E1; have hc := S.out.ent.cell 0 _ rfl)
    | (with_reducible refine wpList_load_page S.out.page rfl (.tmp 3) rfl rfl ?_)
    | (go_at_call 96; (with_reducible refine (C2.out _).mono ?_); rintro e w' ⟨rfl, hb⟩; clear hc C2; replace S := Lib.hid (S.out.call hb); clear hb)
    | ((with_reducible refine nwpList_store_put S.out L2.out rfl (.tmp 3) (.tmp 27) rfl rfl ?_ ?_); (exact rfl); intro W2 S2; replace S := Lib.hid S2; clear S2; have hc := S.out.ent.cell 1 _ rfl)
    | (go_at_call 96; (with_reducible refine (C3.out _).mono ?_); rintro e w' ⟨rfl, hb⟩; clear hc C3; replace S := Lib.hid (S.out.call hb); clear hb)
    | ((with_reducible refine nwpList_store_put S.out L3.out rfl (.tmp 3) (.tmp 34) rfl rfl ?_ ?_); (exact rfl); intro W2 S2; replace S := Lib.hid S2; clear S2; have hc := S.out.ent.cell 1 _ rfl)
    | (go_at_call 67; (with_reducible refine (C4.out _).mono ?_); rintro e w' ⟨rfl, hb⟩; clear hc C4; replace S := Lib.hid (S.out.call hb); clear hb)
    | ((with_reducible refine wpList_store_page S.out.out L4.out rfl (.tmp 6) (.tmp 40) rfl rfl ?_ ?_); (exact rfl)))
  exact bodyPost_ret (results_page _ 6 rfl _ (S.out.back q4 L4.out).1 rfl) rfl ⟨rfl, (S.out.back q4 L4.out).2⟩
end

section
open Dk (zeros zeros_length)
open Go.RowKit
theorem entL_len (n : Int) (s : ByteArray) : (entL n s).length = 2 := rfl
structure NbxS (w0 : World) (p : List UInt8) (W : World) : Prop where
  page : PageAt W w0.heap.size p
  out : RowAt W (w0.heap.size + 1) (entL 0 ⟨#[]⟩)
  below : Below w0.heap.size w0 W
theorem NbxS.call {w0 : World} {p : List UInt8} {W W' : World} (k : NbxS w0 p W) (hb : Below W.heap.size W W') : NbxS w0 p W' :=
  ⟨k.page.step hb, RowAt.step k.out hb, k.below.trans (hb.mono k.below.size)⟩
theorem NbxS.drew {w0 : World} {p : List UInt8} {W : World} (k : NbxS w0 p W) : NbxS w0 p W.drew := ⟨k.page.drew, k.out.drew, k.below.drew⟩
theorem nbxS_box (w : World) (p : List UInt8) (t : TypeId) (hp : p.length = 64) : NbxS w p ((w.alloc (.cells (byteVals p).toArray 97)).alloc (.cells (entL 0 ⟨#[]⟩).toArray t)) where
  page := (pageAt_new w p _ hp).alloc _
  out := by
    have h := rowAt_new (w.alloc (.cells (byteVals p).toArray 97)) (entL 0 ⟨#[]⟩) t
    rw [World.size_alloc] at h
    exact h
  below := ((Below.refl _ _).alloc (Nat.le_refl _) _).alloc (by simp) _
theorem NbxS.back {w0 : World} {p : List UInt8} {W : World} (k : NbxS w0 p W) (n : Int) (s : ByteArray) : RowAt (W.setCells (w0.heap.size + 1) 0 (entL n s)) (w0.heap.size + 1) (entL n s) ∧ Below w0.heap.size w0 (W.setCells (w0.heap.size + 1) 0 (entL n s)) :=
  ⟨k.out.put (entL n s) rfl, below_setCells _ (by omega) _ _ _ k.below⟩
def NgtS (w0 : World) (p : List UInt8) (n : Int) (s : ByteArray) (o : Option (Nat × Bool)) (W : World) : Prop :=
  NbxS w0 p W ∧ match o with
    | none => True
    | some (g, b) => w0.heap.size + 1 < g ∧ RowAt W g (if b = true then entL n s else entL 0 ⟨#[]⟩)
theorem NgtS.call {w0 : World} {p : List UInt8} {n : Int} {s : ByteArray} {o : Option (Nat × Bool)} {W W' : World} (k : NgtS w0 p n s o W) (hb : Below W.heap.size W W') : NgtS w0 p n s o W' := by
  refine ⟨NbxS.call k.1 hb, ?_⟩
  match o, k with
  | none, _ => trivial
  | some (g, true), k => exact ⟨k.2.1, RowAt.step (v := .int .i64 n) (vs := [.string s]) k.2.2 hb⟩
  | some (g, false), k => exact ⟨k.2.1, RowAt.step (v := .int .i64 0) (vs := [.string ⟨#[]⟩]) k.2.2 hb⟩
theorem NgtS.drew {w0 : World} {p : List UInt8} {n : Int} {s : ByteArray} {g : Nat} {b : Bool} {W : World} (k : NgtS w0 p n s (some (g, b)) W) : NgtS w0 p n s (some (g, b)) W.drew := ⟨NbxS.drew k.1, k.2.1, k.2.2.drew⟩
theorem NgtS.alloc {w0 : World} {p : List UInt8} {n : Int} {s : ByteArray} {W : World} {t : TypeId} (k : NbxS w0 p W) : NgtS w0 p n s (some (W.heap.size, false)) (W.alloc (.cells (entL 0 ⟨#[]⟩).toArray t)) :=
  ⟨⟨k.page.alloc _, k.out.alloc _, k.below.alloc k.below.size _⟩, k.out.lt, rowAt_new W (entL 0 ⟨#[]⟩) t⟩
theorem NgtS.put {w0 : World} {p : List UInt8} {n : Int} {s : ByteArray} {g : Nat} {b : Bool} {W : World} (k : NgtS w0 p n s (some (g, b)) W) : NgtS w0 p n s (some (g, true)) (W.setCells g 0 (entL n s)) := by
  obtain ⟨k1, k2, k3⟩ := k
  exact ⟨⟨k1.page.put_other _ _ _ (by omega), k1.out.put_other _ _ _ (by omega), below_setCells _ (by omega) _ _ _ k1.below⟩, k2, k3.put (entL n s) (by cases b <;> rfl)⟩
theorem get_bad (p : List UInt8) (i : Int) (A : Nat) (L m : Int) (t : ByteArray) (w : World) (hp : p.length = 64) (h0 : 0 ≤ i) (h4 : i < 4) (hA : i * 16 = (A : Int))
    (C1 : Hid (∀ w, Calls Tryz.prog 142 #[pageV p, .int .i64 ((A : Int) + 2), .int .i64 1] w fun e w' => e = .returned (.int .i64 L) ∧ Below w.heap.size w w'))
    (C2 : Hid (∀ w, Calls Tryz.prog 142 #[pageV p, .int .i64 (A : Int), .int .i64 2] w fun e w' => e = .returned (.int .i64 m) ∧ Below w.heap.size w w'))
    (C3 : Hid (∀ w, Calls Tryz.prog 162 #[pageV p, .int .i64 ((A : Int) + 3), .int .i64 L] w fun e w' => e = .returned (.string t) ∧ Below w.heap.size w w'))
    (HM : Hid (∀ w, Calls Tryz.prog 137 #[entV m t] w fun e w' => e = .returned (.bool false) ∧ Below w.heap.size w w'))
    : Calls Tryz.prog 132 #[pageV p, .int .i64 i] w fun e w' => e = .returned (.tuple #[entV 0 ⟨#[]⟩, .int .i64 5]) ∧ Below w.heap.size w w' := by
  have HS := Lib.hid (nbxS_box w p 41 hp)
  have HT := Lib.hid (fun w => isThere_any i w)
  rw [show thereB i = true from decide_eq_true ⟨h0, h4⟩] at HT
  have hA64 : A + 16 ≤ 64 := by omega
  have HW3 : Hid (IntKind.i64.wrap ((A : Int) + 3) = (A : Int) + 3) := Lib.hid (IntWalk.i64_in _ (by omega))
  clear hp
  unfold pageV
  go_enter Tryz.func132, Tryz.ntmps132
  go_wp2_with fail
  refine (HT.out _).mono ?_
  rintro e w1 ⟨rfl, hw⟩
  have S : Hid (NbxS w p w1) := Lib.hid (by rw [← hw]; exact HS.out)
  clear hw HS
  go_wp2_with (first
    | (with_reducible refine wpList_load_page S.out.page rfl (.tmp 2) rfl rfl ?_)
    | (go_at_call 142; (with_reducible refine (C1.out _).mono ?_); rintro e w' ⟨rfl, hb⟩; clear C1; replace S := Lib.hid (S.out.call hb); clear hb))
  refine wp_region_lin (NgtS w p m t) (fun i => i == 9 || i == 10) (fun i => [pageV p, .int .i64 (A : Int), .int .i64 m, pageV p, .int .i64 (A : Int), .int .i64 ((A : Int) + 3), .int .i64 L, .string t, entV m t].getD i undef) (none) (by kernel_rfl) (by kernel_rfl) (⟨NbxS.drew S.out, trivial⟩) ?_
  refine lin_step (i := 0) (d := some 19) (v := pageV p) rfl rfl (by kernel_rfl) (by kernel_rfl) rfl rfl (ord_page (by kernel_rfl) (.tmp 2) rfl rfl (fun _ _ hS => hS.1.page)) ?_
  (try simp only [Act.put, puA, puB, puC])
  refine lin_step (i := 1) (d := some 20) (v := .int .i64 (A : Int)) rfl rfl (by kernel_rfl) (by kernel_rfl) rfl rfl (ord_value (by kernel_rfl) ?_) ?_
  · intro _ _ _; go_simp
  (try simp only [Act.put, puA, puB, puC])
  refine lin_step (i := 2) (d := some 21) (v := .int .i64 m) rfl rfl (by kernel_rfl) (by kernel_rfl) rfl rfl (ord_call (f := 142) (args := #[pageV p, .int .i64 (A : Int), .int .i64 2]) (by kernel_rfl) ?_ (fun _ W hS => (C2.out W).mono fun _ _ h => ⟨h.1, NgtS.call hS h.2⟩)) ?_
  · intro _; go_simp
  (try simp only [Act.put, puA, puB, puC])
  refine lin_step (i := 3) (d := some 22) (v := pageV p) rfl rfl (by kernel_rfl) (by kernel_rfl) rfl rfl (ord_page (by kernel_rfl) (.tmp 2) rfl rfl (fun _ _ hS => hS.1.page)) ?_
  (try simp only [Act.put, puA, puB, puC])
  refine lin_step (i := 4) (d := some 23) (v := .int .i64 (A : Int)) rfl rfl (by kernel_rfl) (by kernel_rfl) rfl rfl (ord_value (by kernel_rfl) ?_) ?_
  · intro _ _ _; go_simp
  (try simp only [Act.put, puA, puB, puC])
  refine lin_step (i := 5) (d := some 24) (v := .int .i64 ((A : Int) + 3)) rfl rfl (by kernel_rfl) (by kernel_rfl) rfl rfl (ord_value (by kernel_rfl) ?_) ?_
  · intro _ _ _; go_simp; rw [HW3.out]
  (try simp only [Act.put, puA, puB, puC])
  refine lin_step (i := 6) (d := some 25) (v := .int .i64 L) rfl rfl (by kernel_rfl) (by kernel_rfl) rfl rfl (ord_value (by kernel_rfl) ?_) ?_
  · intro _ _ _; go_simp
  (try simp only [Act.put, puA, puB, puC])
  refine lin_step (i := 7) (d := some 26) (v := .string t) rfl rfl (by kernel_rfl) (by kernel_rfl) rfl rfl (ord_call (f := 162) (args := #[pageV p, .int .i64 ((A : Int) + 3), .int .i64 L]) (by kernel_rfl) ?_ (fun _ W hS => (C3.out W).mono fun _ _ h => ⟨h.1, NgtS.call hS h.2⟩)) ?_
  · intro _; go_simp
  (try simp only [Act.put, puA, puB, puC])
  refine lin_step (i := 8) (d := some 27) (v := entV m t) rfl rfl (by kernel_rfl) (by kernel_rfl) rfl rfl (ord_value (by kernel_rfl) ?_) ?_
  · (intro _ _ _; unfold entV; go_simp) <;> rfl
  (try simp only [Act.put, puA, puB, puC])
  refine lin_turn (i := 9) (d := some 8) (fun u s => ∃ g, w.heap.size + 1 < g ∧ u = .pointer (some ⟨g, 0, none⟩) ∧ s = some (g, false)) rfl rfl (by kernel_rfl) (by kernel_rfl) rfl (by kernel_rfl) (⟨_, _, w.heap.size + 2, by omega, rfl, rfl⟩) (by kernel_rfl) (fun W hS => gives_to (v := .pointer (some ⟨W.heap.size, 0, none⟩)) (w' := W.alloc (.cells (entL 0 ⟨#[]⟩).toArray 41)) (by go_simp; rfl) ⟨some (W.heap.size, false), ⟨W.heap.size, hS.1.out.lt, rfl, rfl⟩, NgtS.alloc hS.1⟩) ?_
  rintro _ _ ⟨g, hg, rfl, rfl⟩
  (try simp only [Act.put, puA, puB, puC])
  refine lin_turn (i := 10) (d := none) (fun u s => u = undef ∧ s = some (g, true)) rfl rfl (by kernel_rfl) (by kernel_rfl) rfl (by kernel_rfl) (⟨_, _, rfl, rfl⟩) (by kernel_rfl) (fun W hS => gives_store_row entT hS.2.2 rfl rfl (entL_one m t) (.tmp 8) (.tmp 27) rfl rfl rfl ⟨some (g, true), ⟨rfl, rfl⟩, NgtS.put hS⟩) ?_
  rintro _ _ ⟨rfl, rfl⟩
  (try simp only [Act.put, puA, puB, puC])
  refine lin_done (by kernel_rfl) ?_
  intro W2 hS
  have S2 : Hid (NgtS w p m t (some (g, true)) W2) := Lib.hid hS
  clear hS S hg
  go_wp2_with fail
  refine wp_region_class (C := NgtS w p m t (some (g, true))) (by kernel_rfl) (NgtS.drew S2.out) ?_
  refine wpQuiet_row entT rfl (.tmp 8) rfl rfl (by kernel_rfl) (fun _ hC => hC.2.2) ?_
  (try simp only [Act.put, puA, puB, puC])
  refine wpQuiet_call 137 #[entV m t] (.bool false) (by kernel_rfl) (fun _ => by go_simp; rfl) (fun W hC => (HM.out W).mono fun _ _ h => ⟨h.1, NgtS.call hC h.2⟩) ?_
  (try simp only [Act.put, puA, puB, puC])
  refine wpQuiet_take (.bool true) (by kernel_rfl) ?_ ?_
  · (intro _ _; go_simp)
  (try simp only [Act.put, puA, puB, puC])
  refine wpQuiet_take (.bool true) (by kernel_rfl) ?_ ?_
  · (intro _ _; go_simp)
  (try simp only [Act.put, puA, puB, puC])
  refine BigFrame.wpQuiet_skip (by kernel_rfl) ?_
  (try simp only [Act.put, puA, puB, puC])
  refine BigFrame.wpQuiet_skip (by kernel_rfl) ?_
  (try simp only [Act.put, puA, puB, puC])
  refine BigFrame.wpQuiet_skip (by kernel_rfl) ?_
  (try simp only [Act.put, puA, puB, puC])
  refine BigFrame.wpQuiet_skip (by kernel_rfl) ?_
  (try simp only [Act.put, puA, puB, puC])
  refine BigFrame.wpQuiet_skip (by kernel_rfl) ?_
  (try simp only [Act.put, puA, puB, puC])
  refine BigFrame.wpQuiet_skip (by kernel_rfl) ?_
  (try simp only [Act.put, puA, puB, puC])
  refine wpQuiet_take (.bool true) (by kernel_rfl) ?_ ?_
  · (intro _ _; go_simp)
  (try simp only [Act.put, puA, puB, puC])
  refine wpQuiet_nil ?_
  intro W3 hC
  have S3 := Lib.hid hC
  clear hC S2
  have R3 : Hid (RowAt W3 g (entL m t)) := Lib.hid S3.out.2.2
  have B3 : Hid (NbxS w p W3) := Lib.hid S3.out.1
  go_wp2_with (first
    | ((with_reducible refine wpList_store_rw entT (vs := entL 0 ⟨#[]⟩) B3.out.out (entL_len _ _) (entL_len _ _) (entL_one _ _) rfl (.tmp 4) (.tmp 39) rfl rfl ?_ ?_); (exact rfl))
    | (with_reducible refine wpList_load_rw entT R3.out (entL_len _ _) rfl (.tmp 8) rfl rfl ?_))
  exact bodyPost_ret (results_row2 entT _ 4 5 rfl _ (B3.out.back _ _).1 rfl rfl rfl) rfl ⟨rfl, (B3.out.back _ _).2⟩
theorem get_other (p : List UInt8) (i : Int) (A : Nat) (L m : Int) (t : ByteArray) (q : List UInt8) (b : Bool) (w : World) (hp : p.length = 64) (h0 : 0 ≤ i) (h4 : i < 4) (hA : i * 16 = (A : Int))
    (C1 : Hid (∀ w, Calls Tryz.prog 142 #[pageV p, .int .i64 ((A : Int) + 2), .int .i64 1] w fun e w' => e = .returned (.int .i64 L) ∧ Below w.heap.size w w'))
    (C2 : Hid (∀ w, Calls Tryz.prog 142 #[pageV p, .int .i64 (A : Int), .int .i64 2] w fun e w' => e = .returned (.int .i64 m) ∧ Below w.heap.size w w'))
    (C3 : Hid (∀ w, Calls Tryz.prog 162 #[pageV p, .int .i64 ((A : Int) + 3), .int .i64 L] w fun e w' => e = .returned (.string t) ∧ Below w.heap.size w w'))
    (HM : Hid (∀ w, Calls Tryz.prog 137 #[entV m t] w fun e w' => e = .returned (.bool true) ∧ Below w.heap.size w w'))
    (C4 : Hid (∀ w, Calls Tryz.prog 94 #[pageV p, .int .i64 i, entV m t] w fun e w' => e = .returned (pageV q) ∧ Below w.heap.size w w'))
    (hq : q.length = 64) (hbq : (!decide (q = p)) = b)
    : Calls Tryz.prog 132 #[pageV p, .int .i64 i] w fun e w' => e = .returned (.tuple #[if b = true then entV 0 ⟨#[]⟩ else entV m t, .int .i64 (if b = true then 5 else 0)]) ∧ Below w.heap.size w w' := by
  have HN : Hid (∀ w, (binOp .neq 97 (pageV q) (pageV p)).run Tryz.prog w = .ok (.bool b) w) := Lib.hid (fun w => by rw [run_neq_page w q p hq hp, hbq])
  clear hq
  clear hbq
  have HS := Lib.hid (nbxS_box w p 41 hp)
  have HT := Lib.hid (fun w => isThere_any i w)
  rw [show thereB i = true from decide_eq_true ⟨h0, h4⟩] at HT
  have hA64 : A + 16 ≤ 64 := by omega
  have HW3 : Hid (IntKind.i64.wrap ((A : Int) + 3) = (A : Int) + 3) := Lib.hid (IntWalk.i64_in _ (by omega))
  clear hp
  unfold pageV
  go_enter Tryz.func132, Tryz.ntmps132
  go_wp2_with fail
  refine (HT.out _).mono ?_
  rintro e w1 ⟨rfl, hw⟩
  have S : Hid (NbxS w p w1) := Lib.hid (by rw [← hw]; exact HS.out)
  clear hw HS
  go_wp2_with (first
    | (with_reducible refine wpList_load_page S.out.page rfl (.tmp 2) rfl rfl ?_)
    | (go_at_call 142; (with_reducible refine (C1.out _).mono ?_); rintro e w' ⟨rfl, hb⟩; clear C1; replace S := Lib.hid (S.out.call hb); clear hb))
  refine wp_region_lin (NgtS w p m t) (fun i => i == 9 || i == 10) (fun i => [pageV p, .int .i64 (A : Int), .int .i64 m, pageV p, .int .i64 (A : Int), .int .i64 ((A : Int) + 3), .int .i64 L, .string t, entV m t].getD i undef) (none) (by kernel_rfl) (by kernel_rfl) (⟨NbxS.drew S.out, trivial⟩) ?_
  refine lin_step (i := 0) (d := some 19) (v := pageV p) rfl rfl (by kernel_rfl) (by kernel_rfl) rfl rfl (ord_page (by kernel_rfl) (.tmp 2) rfl rfl (fun _ _ hS => hS.1.page)) ?_
  (try simp only [Act.put, puA, puB, puC])
  refine lin_step (i := 1) (d := some 20) (v := .int .i64 (A : Int)) rfl rfl (by kernel_rfl) (by kernel_rfl) rfl rfl (ord_value (by kernel_rfl) ?_) ?_
  · intro _ _ _; go_simp
  (try simp only [Act.put, puA, puB, puC])
  refine lin_step (i := 2) (d := some 21) (v := .int .i64 m) rfl rfl (by kernel_rfl) (by kernel_rfl) rfl rfl (ord_call (f := 142) (args := #[pageV p, .int .i64 (A : Int), .int .i64 2]) (by kernel_rfl) ?_ (fun _ W hS => (C2.out W).mono fun _ _ h => ⟨h.1, NgtS.call hS h.2⟩)) ?_
  · intro _; go_simp
  (try simp only [Act.put, puA, puB, puC])
  refine lin_step (i := 3) (d := some 22) (v := pageV p) rfl rfl (by kernel_rfl) (by kernel_rfl) rfl rfl (ord_page (by kernel_rfl) (.tmp 2) rfl rfl (fun _ _ hS => hS.1.page)) ?_
  (try simp only [Act.put, puA, puB, puC])
  refine lin_step (i := 4) (d := some 23) (v := .int .i64 (A : Int)) rfl rfl (by kernel_rfl) (by kernel_rfl) rfl rfl (ord_value (by kernel_rfl) ?_) ?_
  · intro _ _ _; go_simp
  (try simp only [Act.put, puA, puB, puC])
  refine lin_step (i := 5) (d := some 24) (v := .int .i64 ((A : Int) + 3)) rfl rfl (by kernel_rfl) (by kernel_rfl) rfl rfl (ord_value (by kernel_rfl) ?_) ?_
  · intro _ _ _; go_simp; rw [HW3.out]
  (try simp only [Act.put, puA, puB, puC])
  refine lin_step (i := 6) (d := some 25) (v := .int .i64 L) rfl rfl (by kernel_rfl) (by kernel_rfl) rfl rfl (ord_value (by kernel_rfl) ?_) ?_
  · intro _ _ _; go_simp
  (try simp only [Act.put, puA, puB, puC])
  refine lin_step (i := 7) (d := some 26) (v := .string t) rfl rfl (by kernel_rfl) (by kernel_rfl) rfl rfl (ord_call (f := 162) (args := #[pageV p, .int .i64 ((A : Int) + 3), .int .i64 L]) (by kernel_rfl) ?_ (fun _ W hS => (C3.out W).mono fun _ _ h => ⟨h.1, NgtS.call hS h.2⟩)) ?_
  · intro _; go_simp
  (try simp only [Act.put, puA, puB, puC])
  refine lin_step (i := 8) (d := some 27) (v := entV m t) rfl rfl (by kernel_rfl) (by kernel_rfl) rfl rfl (ord_value (by kernel_rfl) ?_) ?_
  · (intro _ _ _; unfold entV; go_simp) <;> rfl
  (try simp only [Act.put, puA, puB, puC])
  refine lin_turn (i := 9) (d := some 8) (fun u s => ∃ g, w.heap.size + 1 < g ∧ u = .pointer (some ⟨g, 0, none⟩) ∧ s = some (g, false)) rfl rfl (by kernel_rfl) (by kernel_rfl) rfl (by kernel_rfl) (⟨_, _, w.heap.size + 2, by omega, rfl, rfl⟩) (by kernel_rfl) (fun W hS => gives_to (v := .pointer (some ⟨W.heap.size, 0, none⟩)) (w' := W.alloc (.cells (entL 0 ⟨#[]⟩).toArray 41)) (by go_simp; rfl) ⟨some (W.heap.size, false), ⟨W.heap.size, hS.1.out.lt, rfl, rfl⟩, NgtS.alloc hS.1⟩) ?_
  rintro _ _ ⟨g, hg, rfl, rfl⟩
  (try simp only [Act.put, puA, puB, puC])
  refine lin_turn (i := 10) (d := none) (fun u s => u = undef ∧ s = some (g, true)) rfl rfl (by kernel_rfl) (by kernel_rfl) rfl (by kernel_rfl) (⟨_, _, rfl, rfl⟩) (by kernel_rfl) (fun W hS => gives_store_row entT hS.2.2 rfl rfl (entL_one m t) (.tmp 8) (.tmp 27) rfl rfl rfl ⟨some (g, true), ⟨rfl, rfl⟩, NgtS.put hS⟩) ?_
  rintro _ _ ⟨rfl, rfl⟩
  (try simp only [Act.put, puA, puB, puC])
  refine lin_done (by kernel_rfl) ?_
  intro W2 hS
  have S2 : Hid (NgtS w p m t (some (g, true)) W2) := Lib.hid hS
  clear hS S hg
  go_wp2_with fail
  refine wp_region_class (C := NgtS w p m t (some (g, true))) (by kernel_rfl) (NgtS.drew S2.out) ?_
  refine wpQuiet_row entT rfl (.tmp 8) rfl rfl (by kernel_rfl) (fun _ hC => hC.2.2) ?_
  (try simp only [Act.put, puA, puB, puC])
  refine wpQuiet_call 137 #[entV m t] (.bool true) (by kernel_rfl) (fun _ => by go_simp; rfl) (fun W hC => (HM.out W).mono fun _ _ h => ⟨h.1, NgtS.call hC h.2⟩) ?_
  (try simp only [Act.put, puA, puB, puC])
  refine wpQuiet_take (.bool false) (by kernel_rfl) ?_ ?_
  · (intro _ _; go_simp)
  (try simp only [Act.put, puA, puB, puC])
  refine wpQuiet_take (.bool false) (by kernel_rfl) ?_ ?_
  · (intro _ _; go_simp)
  (try simp only [Act.put, puA, puB, puC])
  refine wpQuiet_page (.tmp 2) rfl rfl (by kernel_rfl) (fun _ hC => hC.1.page) ?_
  (try simp only [Act.put, puA, puB, puC])
  refine wpQuiet_take (.int .i64 i) (by kernel_rfl) ?_ ?_
  · (intro _ _; go_simp)
  (try simp only [Act.put, puA, puB, puC])
  refine wpQuiet_row entT rfl (.tmp 8) rfl rfl (by kernel_rfl) (fun _ hC => hC.2.2) ?_
  (try simp only [Act.put, puA, puB, puC])
  refine wpQuiet_call 94 #[pageV p, .int .i64 i, entV m t] (pageV q) (by kernel_rfl) (fun _ => by go_simp; rfl) (fun W hC => (C4.out W).mono fun _ _ h => ⟨h.1, NgtS.call hC h.2⟩) ?_
  (try simp only [Act.put, puA, puB, puC])
  refine wpQuiet_page (.tmp 2) rfl rfl (by kernel_rfl) (fun _ hC => hC.1.page) ?_
  (try simp only [Act.put, puA, puB, puC])
  refine wpQuiet_take (.bool b) (by kernel_rfl) ?_ ?_
  · (intro w _; have hn := HN.out w; have hgd := fun x y => run_neGuard_page w x y q p; go_simp)
  (try simp only [Act.put, puA, puB, puC])
  refine wpQuiet_take (.bool b) (by kernel_rfl) ?_ ?_
  · (intro _ _; cases b <;> go_simp)
  (try simp only [Act.put, puA, puB, puC])
  refine wpQuiet_nil ?_
  intro W3 hC
  have S3 := Lib.hid hC
  clear hC S2
  cases b with
  | true =>
    have R3 : Hid (RowAt W3 g (entL m t)) := Lib.hid S3.out.2.2
    have B3 : Hid (NbxS w p W3) := Lib.hid S3.out.1
    go_wp2_with (first
      | ((with_reducible refine wpList_store_rw entT (vs := entL 0 ⟨#[]⟩) B3.out.out (entL_len _ _) (entL_len _ _) (entL_one _ _) rfl (.tmp 4) (.tmp 39) rfl rfl ?_ ?_); (exact rfl))
      | (with_reducible refine wpList_load_rw entT R3.out (entL_len _ _) rfl (.tmp 8) rfl rfl ?_))
    exact bodyPost_ret (results_row2 entT _ 4 5 rfl _ (B3.out.back _ _).1 rfl rfl rfl) rfl ⟨rfl, (B3.out.back _ _).2⟩
  | false =>
    have R3 : Hid (RowAt W3 g (entL m t)) := Lib.hid S3.out.2.2
    have B3 : Hid (NbxS w p W3) := Lib.hid S3.out.1
    go_wp2_with (first
      | ((with_reducible refine wpList_store_rw entT (vs := entL m t) B3.out.out (entL_len _ _) (entL_len _ _) (entL_one _ _) rfl (.tmp 4) (.tmp 40) rfl rfl ?_ ?_); (exact rfl))
      | (with_reducible refine wpList_load_rw entT R3.out (entL_len _ _) rfl (.tmp 8) rfl rfl ?_))
    exact bodyPost_ret (results_row2 entT _ 4 5 rfl _ (B3.out.back _ _).1 rfl rfl rfl) rfl ⟨rfl, (B3.out.back _ _).2⟩
end

section
open Dk (zeros zeros_length)
open Go.RowKit
theorem strOf_list (l : List UInt8) : (strOf l).data.toList = l := rfl
def putF (p : List UInt8) (i : Int) (n : Int) (s : List UInt8) : List UInt8 := if thereB i = true ∧ Nm.standB n s = true then Nm.lay p i.toNat (Nm.slot n s) else p
theorem there_nat {i : Int} (h : thereB i = true) : ∃ k : Nat, i = (k : Int) ∧ k < 4 := by
  have := of_decide_eq_true h
  exact ⟨i.toNat, by omega, by omega⟩
theorem put_far (p : List UInt8) (i n : Int) (s : ByteArray) (w : World) (hp : p.length = 64) (h : thereB i = false) :
    Calls Tryz.prog 94 #[pageV p, .int .i64 i, entV n s] w fun e w' => e = .returned (pageV p) ∧ Below w.heap.size w w' := by
  have hs := nputS_box w p n s hp
  rw [zeroCells_def] at hs
  have S := Lib.hid hs; clear hs
  have L := Lib.hid hp; clear hp
  have HT := Lib.hid (fun w => isThere_any i w)
  rw [h] at HT
  clear h
  unfold pageV entV
  go_enter Tryz.func94, Tryz.ntmps94
  go_wp2_with (first
    | (go_at_call 136; refine (HT.out _).mono ?_; rintro e w' ⟨rfl, rfl⟩)
    | (with_reducible refine wpList_load_page S.out.page rfl (.tmp 3) rfl rfl ?_)
    | ((with_reducible refine wpList_store_page S.out.out L.out rfl (.tmp 6) (.tmp 16) rfl rfl ?_ ?_); (exact rfl)))
  exact bodyPost_ret (results_page _ 6 rfl _ (S.out.back p L.out).1 rfl) rfl ⟨rfl, (S.out.back p L.out).2⟩
theorem put_wrong (p : List UInt8) (i n : Int) (s : ByteArray) (w : World) (hp : p.length = 64) (h : thereB i = true) (hn : Nm.standB n s.data.toList = false) (hm : s.size ≤ maxLen) :
    Calls Tryz.prog 94 #[pageV p, .int .i64 i, entV n s] w fun e w' => e = .returned (pageV p) ∧ Below w.heap.size w w' := by
  have hs := nputS_box w p n s hp
  rw [zeroCells_def] at hs
  have HS := Lib.hid hs; clear hs
  have L := Lib.hid hp; clear hp
  have HT := Lib.hid (fun w => isThere_any i w)
  rw [h] at HT
  have HM := Lib.hid (fun w => stand_any n s w hm)
  rw [hn] at HM
  clear h hn hm
  unfold pageV entV
  go_enter Tryz.func94, Tryz.ntmps94
  go_wp2_with (first
    | (go_at_call 136; refine (HT.out _).mono ?_; rintro e w' ⟨rfl, rfl⟩)
    | (go_at_call 137; refine (HM.out _).mono ?_; rintro e w2 ⟨rfl, hb⟩; have S := Lib.hid (HS.out.call hb); clear hb HS)
    | (with_reducible refine wpList_load_page S.out.page rfl (.tmp 3) rfl rfl ?_)
    | ((with_reducible refine wpList_store_page S.out.out L.out rfl (.tmp 6) (.tmp 16) rfl rfl ?_ ?_); (exact rfl)))
  exact bodyPost_ret (results_page _ 6 rfl _ (S.out.back p L.out).1 rfl) rfl ⟨rfl, (S.out.back p L.out).2⟩
theorem nput_any (p : List UInt8) (i n : Int) (s : ByteArray) (w : World) (hp : p.length = 64) (hm : s.size ≤ maxLen) :
    Calls Tryz.prog 94 #[pageV p, .int .i64 i, entV n s] w fun e w' => e = .returned (pageV (putF p i n s.data.toList)) ∧ Below w.heap.size w w' := by
  cases h : thereB i with
  | false =>
    unfold putF
    rw [if_neg (fun k => by rw [h] at k; cases k.1)]
    exact put_far p i n s w hp h
  | true =>
    cases hn : Nm.standB n s.data.toList with
    | false =>
      unfold putF
      rw [if_neg (fun k => by rw [hn] at k; cases k.2)]
      exact put_wrong p i n s w hp h hn hm
    | true =>
      unfold putF
      rw [if_pos ⟨h, hn⟩]
      obtain ⟨k, rfl, hk⟩ := there_nat h
      have := put_yes p (k : Int) (16 * k) n s w hp (by omega) (by omega) (by omega) hn hm
      rw [Int.toNat_natCast, ← Nm.put4_eq hp hk n (Nm.stand_bd hn).2.2]
      unfold Nm.put4 Nm.put3 Nm.put2 Nm.put1
      rw [size_list]
      exact this
def errI (o : Option (Int × List UInt8)) : Int := if o.isSome = true then 0 else 5
theorem get_at (p : List UInt8) (k : Nat) (w : World) (hp : p.length = 64) (hk : k < 4) :
    Calls Tryz.prog 132 #[pageV p, .int .i64 (k : Int)] w fun e w' => e = .returned (.tuple #[entV (Nm.entN (Nm.ent (Nm.at_ p k))) (strOf (Nm.entS (Nm.ent (Nm.at_ p k)))), .int .i64 (errI (Nm.ent (Nm.at_ p k)))]) ∧ Below w.heap.size w w' := by
  have hb := Nm.len_bd hp hk
  have hl : (strOf (Nm.name p k)).size ≤ maxLen := by
    rw [strOf_size]
    have := Nm.name_length hp k
    unfold maxLen
    omega
  have C1 := Lib.hid (fun w => get_any p (((16 * k : Nat) : Int) + 2) 1 w hp (by decide) (by decide))
  have C2 := Lib.hid (fun w => get_any p ((16 * k : Nat) : Int) 2 w hp (by decide) (by decide))
  have C3 := Lib.hid (fun w => text_any p (((16 * k : Nat) : Int) + 3) (Nm.len p k) w hp (by omega) (by omega))
  have HM := Lib.hid (fun w => stand_any (Nm.num p k) (strOf (Nm.name p k)) w hl)
  rw [strOf_list] at HM
  rw [Nm.ent_code hp hk]
  cases hs : Nm.standB (Nm.num p k) (Nm.name p k) with
  | false =>
    rw [if_neg (fun h => by cases h.1)]
    rw [hs] at HM
    exact get_bad p (k : Int) (16 * k) (Nm.len p k) (Nm.num p k) (strOf (Nm.name p k)) w hp (by omega) (by omega) (by omega) C1 C2 C3 HM
  | true =>
    rw [hs] at HM
    have hn : Nm.standB (Nm.num p k) (strOf (Nm.name p k)).data.toList = true := by rw [strOf_list]; exact hs
    have C4 := Lib.hid (fun w => put_yes p (k : Int) (16 * k) (Nm.num p k) (strOf (Nm.name p k)) w hp (by omega) (by omega) (by omega) hn hl)
    have he : Pg.setTextN (Pg.setN (Pg.setN (Pg.over p (16 * k) (Nm.zs 16)) (16 * k : Nat) 2 (Nm.num p k)) (((16 * k : Nat) : Int) + 2) 1 (strOf (Nm.name p k)).size) (((16 * k : Nat) : Int) + 3) (strOf (Nm.name p k)).data.toList = Nm.put4 p k (Nm.num p k) (Nm.name p k) := by
      rw [strOf_list, strOf_size]
      rfl
    rw [he] at C4
    have hq := Nm.put4_length hp hk (Nm.num p k) (Nm.name p k)
    have := get_other p (k : Int) (16 * k) (Nm.len p k) (Nm.num p k) (strOf (Nm.name p k)) (Nm.put4 p k (Nm.num p k) (Nm.name p k)) _ w hp (by omega) (by omega) (by omega) C1 C2 C3 HM C4 hq rfl
    by_cases hqp : Nm.put4 p k (Nm.num p k) (Nm.name p k) = p
    · rw [if_pos ⟨rfl, hqp⟩]
      rw [decide_eq_true hqp] at this
      exact this
    · rw [if_neg (fun h => hqp h.2)]
      rw [decide_eq_false hqp] at this
      exact this
end
end Go.Proofs.YtmpfcgjjejlhdaaGreat
