/-
  Plain mathematics of StoreLasts: what the disk has is one of the states that were kept, and none ahead of the last Sync's.
-/
import Derived.Test.YteedglcbodpcdaaMsd
import Derived.Test.YteedglcbodpcdaaMhb
import Derived.Test.YteedglcbodpcdaaMja
import Derived.Test.YteedglcbodpcdaaMsa
import Derived.Test.YteedglcbodpcdaaMjb
import Derived.Test.YteedglcbodpcdaaMsb
import Derived.Test.YteedglcbodpcdaaMdb
namespace Go.Proofs.Yteedglcbodpcdaa
open Go.RowKit Go.Maps
open Dk (zeros zeros_length)
open Hd (Head rightB pageH)
open Jn (Chg quietH liveH Cl Quiet LiveD May Same upd)

theorem upd_at (cs : List Chg) : ∀ (L : List (List UInt8)) (c : Chg), cs.Pairwise (fun x y => x.no < y.no) → (∀ x ∈ cs, 0 ≤ x.no) → c ∈ cs → c.no.toNat < L.length → (upd L cs).getD c.no.toNat [] = c.page := by
  induction cs with
  | nil => intro L c _ _ hc; cases hc
  | cons x r ih =>
    intro L c hp h0 hc hl
    obtain ⟨p1, p2⟩ := List.pairwise_cons.1 hp
    show (upd (L.set x.no.toNat x.page) r).getD c.no.toNat [] = _
    rcases List.mem_cons.1 hc with rfl | hc
    · rw [Jn.upd_other _ _ _ (fun y hy => by have := p1 y hy; have := h0 c (by simp); have := h0 y (by simp [hy]); omega), List.getD_eq_getElem?_getD, List.getElem?_set_self hl]; rfl
    · exact ih _ c p2 (fun y hy => h0 y (by simp [hy])) hc (by rw [List.length_set]; exact hl)
/-- what was kept of a page -/
def gv (s : Sto) (i : Nat) : List UInt8 := (s.group.getD i none).getD (s.dk.last.getD i [])
def nv (s : Sto) (i : Nat) : List UInt8 := (sheld s i).getD (s.dk.last.getD i [])
theorem upd_gv (s : Sto) (h : s.Ok) (i : Nat) : (upd s.dk.last (chgs s.group)).getD i [] = gv s i := by
  unfold gv
  cases e : s.group.getD i none with
  | some p =>
    have hm : (⟨(i : Int), p⟩ : Chg) ∈ chgs s.group := chgs_mem.2 ⟨i, rfl, e⟩
    have := upd_at (chgs s.group) s.dk.last ⟨(i : Int), p⟩ (chgs_pw _) (fun x hx => by obtain ⟨k, hk, _⟩ := chgs_mem.1 hx; omega) hm (by
      show ((i : Int)).toNat < _
      rw [Int.toNat_natCast, ← h.glen]; exact pgs_lt e)
    exact this
  | none =>
    refine Jn.upd_other _ _ _ (fun c hc q => ?_)
    obtain ⟨k, hk, hk2⟩ := chgs_mem.1 hc
    rw [hk, Int.toNat_natCast] at q
    rw [q, e] at hk2
    cases hk2
/-- a state: the first twenty pages -/
def Is (f : Nat → List UInt8) (X : List (List UInt8)) : Prop := ∀ i, i < 20 → f i = X.getD i []
def nowL (s : Sto) : List (List UInt8) := (List.range 20).map fun (i : Nat) => sreadP s (i : Int)
theorem nowL_at (s : Sto) {i : Nat} (hi : i < 20) : (nowL s).getD i [] = sreadP s (i : Int) := by
  unfold nowL
  rw [List.getD_eq_getElem?_getD, List.getElem?_map, List.getElem?_range hi]; rfl
theorem read_nv {s : Sto} (h : Sound s) (ha : s.a = 20) (hl : s.dk.last.length = 40) {i : Nat} (hi : i < 20) : sreadP s (i : Int) = nv s i := by
  have hr : sreachE s (i : Int) = 0 := by
    unfold sreachE
    rw [if_neg (by rw [h.up]; simp), if_pos (by unfold otherB; rw [decide_eq_true_iff, hl, ha]; omega)]
  unfold sreadP nv
  rw [if_pos hr, Int.toNat_natCast, read_clean h.cl (by omega)]
structure Dims (s : Sto) : Prop where
  a : s.a = 20
  z : s.z = 16
  r : s.r = 14
  len : s.dk.last.length = 40
/-- a store that was broken off: what a crash may leave -/
def Broken (sure : Nat) (sts : List (List (List UInt8))) (d : Dk.St) : Prop := d.Ok ∧ ∃ (X : List (List UInt8)) (cs : List Chg) (B : Int), 0 ≤ B ∧ B < 250 ∧ cs.length ≤ 14 ∧ (∀ keep, Good false 20 16 B cs X (Dk.crash d keep).last) ∧
  (∃ k, sure ≤ k ∧ k < sts.length ∧ Is (fun i => X.getD i []) (sts.getD k [])) ∧ (∃ k, sure ≤ k ∧ k < sts.length ∧ Is (fun i => (upd X cs).getD i []) (sts.getD k []))
structure Ls (m : Nat) (sts : List (List (List UInt8))) (sure : Nat) (s : Sto) : Prop where
  dims : Dims s
  few : sts.length ≤ m + 1
  lt : sure < sts.length
  lens : ∀ x ∈ sts, x.length = 20 ∧ ∀ p ∈ x, p.length = 64
  two : (Sound s ∧ s.q ≤ 1 + 2 * (m : Int) ∧ Is (gv s) (sts.getD (sts.length - 1) []) ∧ ∃ k, sure ≤ k ∧ k < sts.length ∧ Is (fun i => s.dk.last.getD i []) (sts.getD k [])) ∨ (s.over = true ∧ Broken sure sts s.dk)
theorem ls_start {s : Dk.St} (h : First s 40 20) (k : Int) (hk : -9223372036854775808 ≤ k) (hk2 : k ≤ 9223372036854775807) : Ls 0 [List.replicate 20 zeros] 0 (sto0 (Dk.fuse s k) 20 16 14 1) := by
  have hs := h.sound (z := 16) (r := 14) (by omega) (by omega) room16 (by omega) (by omega) (by omega) (by omega)
  have hz : Is (fun i => s.last.getD i []) (List.replicate 20 zeros) := fun i hi => by
    show s.last.getD i [] = _
    rw [h.rest i (by omega) (by omega), List.getD_eq_getElem?_getD, List.getElem?_replicate, if_pos hi]; rfl
  refine ⟨⟨rfl, rfl, rfl, h.len⟩, by simp, by simp, ?_, Or.inl ⟨⟨sto0_ok (s := Dk.fuse s k) (by omega) (by omega) room16 (by omega) (by omega) (by omega) (by show 20 + 16 ≤ s.last.length; rw [h.len]; omega), rfl, Jn.fuse_cl h.cl k hk hk2, hs.q0, hs.head⟩, by show (1 : Int) ≤ _; omega, ?_, 0, Nat.le_refl _, by simp, hz⟩⟩
  · intro x hx
    rw [List.mem_singleton] at hx
    subst hx
    exact ⟨by simp, fun p hp => by rw [List.eq_of_mem_replicate hp]; exact zeros_length⟩
  · intro i hi
    unfold gv
    show ((noPgs _).getD i none).getD (s.last.getD i []) = _
    rw [noPgs_at]
    exact hz i hi
theorem Ls.next {m : Nat} {sts : List (List (List UInt8))} {sure : Nat} {s s' : Sto} (h : Ls m sts sure s) (hd : Dims s') (ht : (Sound s' ∧ s'.q ≤ 1 + 2 * ((m + 1 : Nat) : Int) ∧ Is (gv s') (sts.getD (sts.length - 1) []) ∧ ∃ k, sure ≤ k ∧ k < sts.length ∧ Is (fun i => s'.dk.last.getD i []) (sts.getD k [])) ∨ (s'.over = true ∧ Broken sure sts s'.dk)) : Ls (m + 1) sts sure s' :=
  ⟨hd, by have := h.few; omega, h.lt, h.lens, ht⟩
/-- a call that leaves disk and group -/
theorem ls_same {m : Nat} {sts : List (List (List UInt8))} {sure : Nat} {s s' : Sto} (h : Ls m sts sure s) (h1 : s'.dk = s.dk) (h2 : s'.group = s.group) (h3 : s'.a = s.a ∧ s'.z = s.z ∧ s'.r = s.r ∧ s'.q = s.q ∧ s'.over = s.over) (hs : Sound s → Sound s') : Ls (m + 1) sts sure s' := by
  refine h.next ⟨by rw [h3.1]; exact h.dims.a, by rw [h3.2.1]; exact h.dims.z, by rw [h3.2.2.1]; exact h.dims.r, by rw [h1]; exact h.dims.len⟩ ?_
  rcases h.two with ⟨a1, a2, a3, a4⟩ | ⟨b1, b2⟩
  · refine Or.inl ⟨hs a1, by rw [h3.2.2.2.1]; omega, ?_, by rw [h1]; exact a4⟩
    intro i hi
    have := a3 i hi
    unfold gv at this ⊢
    rw [h1, h2]; exact this
  · exact Or.inr ⟨by rw [h3.2.2.2.2]; exact b1, by rw [h1]; exact b2⟩
theorem ls_put {m : Nat} {sts : List (List (List UInt8))} {sure : Nat} {s : Sto} (h : Ls m sts sure s) (i : Int) {p : List UInt8} (hp : p.length = 64) : Ls (m + 1) sts sure (sput s i p) := by
  refine ls_same h ?_ ?_ ?_ (fun hs => hs.put i hp)
  all_goals
    unfold sput
    split <;> (first | rfl | exact ⟨rfl, rfl, rfl, rfl, rfl⟩)
theorem ls_drop {m : Nat} {sts : List (List (List UInt8))} {sure : Nat} {s : Sto} (h : Ls m sts sure s) : Ls (m + 1) sts sure (sdrop s) := ls_same h rfl rfl ⟨rfl, rfl, rfl, rfl, rfl⟩ (fun hs => hs.drop)
theorem ls_none {m : Nat} {sts : List (List (List UInt8))} {sure : Nat} {s : Sto} (h : Ls m sts sure s) : Ls (m + 1) sts sure s := ls_same h rfl rfl ⟨rfl, rfl, rfl, rfl, rfl⟩ id
/-- what a broken Sync leaves -/
theorem broke {m : Nat} {sts : List (List (List UInt8))} {sure : Nat} {s : Sto} (h : Ls m sts sure s) (hm : m < 80) (hs : Sound s) (hq : s.q ≤ 1 + 2 * (m : Int)) (hg : Is (gv s) (sts.getD (sts.length - 1) [])) (hk : ∃ k, sure ≤ k ∧ k < sts.length ∧ Is (fun i => s.dk.last.getD i []) (sts.getD k []))
    (h2 : (ssync s).dk.Ok) (h3 : ∀ keep, Good false s.a s.z (s.q + 2) (chgs s.group) s.dk.last (Dk.crash (ssync s).dk keep).last) : Broken sure sts (ssync s).dk := by
  have hq0 := hs.q0
  rw [h.dims.a, h.dims.z] at h3
  refine ⟨h2, s.dk.last, chgs s.group, s.q + 2, by omega, by omega, by rw [chgs_length]; have := hs.ok.gcnt; rw [h.dims.r] at this; exact this, h3, hk, sts.length - 1, by have := h.lt; omega, by have := h.lt; omega, fun i hi => ?_⟩
  show (upd s.dk.last (chgs s.group)).getD i [] = _
  rw [upd_gv s hs.ok i]
  exact hg i hi
theorem ssync_dims {s : Sto} (h : Dims s) : Dims (ssync s) := by
  have hl : (srun s).1.last.length = 40 := by rw [srun_len]; exact h.len
  unfold ssync
  split
  · exact h
  · split
    · exact h
    · split
      · exact ⟨h.a, h.z, h.r, hl⟩
      · exact ⟨h.a, h.z, h.r, hl⟩
theorem sync_gv {m : Nat} {sts : List (List (List UInt8))} {sure : Nat} {s : Sto} (h : Ls m sts sure s) (hs : Sound s) (e3 : Same s.a s.z (ssync s).dk.last (upd s.dk.last (chgs s.group))) {i : Nat} (hi : i < 20) : (ssync s).dk.last.getD i [] = gv s i := by
  rw [e3 i (Or.inl (by rw [h.dims.a]; exact hi)), upd_gv s hs.ok i]
theorem over_sync {s : Sto} (h : s.over = true) : ssyncE s = 5 ∧ ssync s = s := by
  refine ⟨?_, ?_⟩
  · unfold ssyncE; rw [if_pos h]
  · unfold ssync; rw [if_pos h]
theorem ls_sync {m : Nat} {sts : List (List (List UInt8))} {sure : Nat} {s : Sto} (h : Ls m sts sure s) (hm : m < 80) : (ssyncE s = 0 ∧ Ls (m + 1) sts (sts.length - 1) (ssync s)) ∨ (ssyncE s = 5 ∧ Ls (m + 1) sts sure (ssync s)) := by
  rcases h.two with ⟨a1, a2, a3, a4⟩ | ⟨b1, b2⟩
  · have hq0 := a1.q0
    rcases sync_two a1 (by omega) with ⟨e1, e2, e3, e4, e5, _⟩ | ⟨e1, _, e3, e4, _, e6⟩
    · left
      obtain ⟨_, g1, _, _, _⟩ := ssync_fine a1.ok e1
      have hv : ∀ i, i < 20 → (ssync s).dk.last.getD i [] = (sts.getD (sts.length - 1) []).getD i [] := fun i hi => (sync_gv h a1 e3 hi).trans (a3 i hi)
      refine ⟨e1, ⟨ssync_dims h.dims, by have := h.few; omega, by have := h.lt; omega, h.lens, Or.inl ⟨e2, by omega, ?_, sts.length - 1, Nat.le_refl _, by have := h.lt; omega, hv⟩⟩⟩
      intro i hi
      unfold gv
      rw [cntO_zero g1, noPgs_at]
      exact hv i hi
    · right
      exact ⟨e1, h.next (ssync_dims h.dims) (Or.inr ⟨e3, broke h hm a1 a2 a3 a4 e4 e6⟩)⟩
  · right
    obtain ⟨g1, g2⟩ := over_sync b1
    rw [g2]
    exact ⟨g1, ls_none h⟩
theorem sheld_is (s : Sto) (i : Nat) : sheld s i = (s.step.getD i none).or (s.group.getD i none) := rfl
/-- a state more -/
theorem Ls.grow {m : Nat} {sts : List (List (List UInt8))} {sure : Nat} {s s' : Sto} {X : List (List UInt8)} (h : Ls m sts sure s) (hd : Dims s') (hX : X.length = 20 ∧ ∀ p ∈ X, p.length = 64) (hs : Sound s') (hq : s'.q ≤ 1 + 2 * ((m + 1 : Nat) : Int)) (hg : Is (gv s') X) (hk : ∃ k, sure ≤ k ∧ k < sts.length ∧ Is (fun i => s'.dk.last.getD i []) (sts.getD k [])) : Ls (m + 1) (sts ++ [X]) sure s' := by
  refine ⟨hd, by have := h.few; simp; omega, by have := h.lt; simp; omega, fun x hx => ?_, Or.inl ⟨hs, hq, ?_, ?_⟩⟩
  · rcases List.mem_append.1 hx with hx | hx
    · exact h.lens x hx
    · rw [List.mem_singleton] at hx; subst hx; exact hX
  · have : (sts ++ [X]).getD ((sts ++ [X]).length - 1) [] = X := by
      rw [List.length_append, List.length_singleton, Nat.add_sub_cancel, List.getD_eq_getElem?_getD, List.getElem?_append_right (Nat.le_refl _), Nat.sub_self]; rfl
    rw [this]; exact hg
  · obtain ⟨k, k1, k2, k3⟩ := hk
    refine ⟨k, k1, by simp; omega, ?_⟩
    have : (sts ++ [X]).getD k [] = sts.getD k [] := by
      rw [List.getD_eq_getElem?_getD, List.getD_eq_getElem?_getD, List.getElem?_append_left k2]
    rw [this]; exact k3
theorem sread_len {s : Sto} (ho : s.Ok) (hd : s.dk.Ok) (i : Int) : (sreadP s i).length = 64 := by
  unfold sreadP
  split
  · unfold sheld
    cases e1 : s.step.getD i.toNat none with
    | some p => exact (ho.spg _ _ e1).1
    | none =>
      cases e2 : s.group.getD i.toNat none with
      | some p => exact (ho.gpg _ _ e2).1
      | none => exact Dk.readP_len hd i
  · exact zeros_length
theorem nowL_ok {s : Sto} (ho : s.Ok) (hd : s.dk.Ok) : (nowL s).length = 20 ∧ ∀ p ∈ nowL s, p.length = 64 := by
  refine ⟨by unfold nowL; simp, fun p hp => ?_⟩
  obtain ⟨i, _, rfl⟩ := List.mem_map.1 hp
  exact sread_len ho hd _
theorem join_gv {s : Sto} (h : s.Ok) {i : Nat} : gv (sjoin s) i = nv s i := by
  unfold gv nv
  show ((joinP s.group s.step).getD i none).getD (s.dk.last.getD i []) = _
  by_cases hi : i < s.group.length
  · rw [joinP_at _ _ _ hi]; rfl
  · have e1 : (joinP s.group s.step).getD i none = none := by
      rw [List.getD_eq_getElem?_getD, List.getElem?_eq_none (by rw [joinP_length]; omega)]; rfl
    have e2 : sheld s i = none := by
      unfold sheld
      rw [List.getD_eq_getElem?_getD, List.getElem?_eq_none (by rw [h.slen, ← h.glen]; omega), List.getD_eq_getElem?_getD, List.getElem?_eq_none (l := s.group) (by omega)]; rfl
    rw [e1, e2]
theorem sjoin_dims {s : Sto} (h : Dims s) : Dims (sjoin s) := ⟨h.a, h.z, h.r, h.len⟩
theorem ls_keep {m : Nat} {sts : List (List (List UInt8))} {sure : Nat} {s : Sto} (h : Ls m sts sure s) (hm : m < 80) : (skeepE s = 0 ∧ Ls (m + 1) (sts ++ [nowL s]) sure (skeep s)) ∨ (skeepE s = 5 ∧ Ls (m + 1) sts sure (skeep s)) := by
  rcases h.two with ⟨a1, a2, a3, a4⟩ | ⟨b1, b2⟩
  · have hq0 := a1.q0
    have hnn : ¬ s.over = true := by rw [a1.up]; simp
    have hnow : ∀ i, i < 20 → nv s i = (nowL s).getD i [] := fun i hi => by rw [nowL_at s hi, read_nv a1 h.dims.a h.dims.len hi]
    have hX := nowL_ok a1.ok a1.cl.ok
    by_cases hr : s.r < stog s
    · rcases sync_two a1 (by omega) with ⟨e1, e2, e3, e4, e5, _⟩ | ⟨e1, _, e3, e4, _, e6⟩
      · left
        have hE : skeepE s = 0 := by unfold skeepE; rw [if_neg hnn, if_pos hr, e1]
        have hF : skeep s = sjoin (ssync s) := by unfold skeep; rw [if_neg hnn, if_pos hr, if_pos e1]
        rw [hF]
        obtain ⟨_, g1, _, g3, _⟩ := ssync_fine a1.ok e1
        refine ⟨hE, h.grow (sjoin_dims (ssync_dims h.dims)) hX (e2.join (sjoin_sync a1.ok e1)) (by show (ssync s).q ≤ _; omega) ?_ ?_⟩
        · intro i hi
          rw [join_gv e2.ok, ← hnow i hi]
          unfold nv
          have hv := sync_gv h a1 e3 hi
          rw [hv]
          unfold sheld gv
          rw [g3, cntO_zero g1, noPgs_at]
          cases s.step.getD i none <;> rfl
        · exact ⟨sts.length - 1, by have := h.lt; omega, by have := h.lt; omega, fun i hi => (sync_gv h a1 e3 hi).trans (a3 i hi)⟩
      · right
        have hE : skeepE s = 5 := by unfold skeepE; rw [if_neg hnn, if_pos hr, e1]
        have hF : skeep s = ssync s := by unfold skeep; rw [if_neg hnn, if_pos hr, if_neg (by rw [e1]; decide)]
        rw [hF]
        exact ⟨hE, h.next (ssync_dims h.dims) (Or.inr ⟨e3, broke h hm a1 a2 a3 a4 e4 e6⟩)⟩
    · left
      have hE : skeepE s = 0 := by unfold skeepE; rw [if_neg hnn, if_neg hr]
      have hF : skeep s = sjoin s := by unfold skeep; rw [if_neg hnn, if_neg hr]
      rw [hF]
      refine ⟨hE, h.grow (sjoin_dims h.dims) hX (a1.join (by omega)) (by show s.q ≤ _; omega) (fun i hi => by rw [join_gv a1.ok, hnow i hi]) a4⟩
  · right
    have hE : skeepE s = 5 := by unfold skeepE; rw [if_pos b1]
    have hF : skeep s = s := by unfold skeep; rw [if_pos b1]
    rw [hF]
    exact ⟨hE, ls_none h⟩
/-- behind the last call: a crash, and an Open -/
theorem ls_end {m : Nat} {sts : List (List (List UInt8))} {sure : Nat} {s : Sto} (h : Ls m sts sure s) (hm : m ≤ 80) (keep : List UInt8) : ∃ (X : List (List UInt8)) (cs : List Chg) (B : Int), 0 ≤ B ∧ B < 250 ∧ cs.length ≤ 14 ∧ s.dk.Ok ∧ Good false 20 16 B cs X (Dk.crash s.dk keep).last ∧
    ∀ L, Fine false 20 16 cs X L → ∃ k, sure ≤ k ∧ k < sts.length ∧ Is (fun i => L.getD i []) (sts.getD k []) := by
  rcases h.two with ⟨a1, a2, a3, k, k1, k2, k3⟩ | ⟨b1, b2, X, cs, B, c1, c2, c3, c4, ⟨k, k1, k2, k3⟩, l, l1, l2, l3⟩
  · have hq0 := a1.q0
    have hq1 : s.q < 4294967296 := by omega
    refine ⟨s.dk.last, [], s.q, hq0, by omega, by simp, a1.cl.ok, ?_, fun L hL => ⟨k, k1, k2, fun i hi => ?_⟩⟩
    · rw [Jn.crash_clean a1.cl keep]
      have hh := a1.head
      rw [h.dims.a] at hh
      exact Or.inl ⟨rfl, rfl, by rw [hh]; exact Jn.page_low hq0 hq1 (Int.le_refl _), by rw [hh]; exact Jn.quietH_quiet hq0 hq1, fun _ _ => rfl⟩
    · have : L.getD i [] = s.dk.last.getD i [] := by
        rcases hL with ⟨_, g⟩ | g
        · exact g i (Or.inl hi)
        · exact g i (Or.inl hi)
      show L.getD i [] = _
      rw [this]; exact k3 i hi
  · refine ⟨X, cs, B, c1, c2, c3, b2, c4 keep, fun L hL => ?_⟩
    rcases hL with ⟨_, g⟩ | g
    · exact ⟨k, k1, k2, fun i hi => (g i (Or.inl hi)).trans (k3 i hi)⟩
    · exact ⟨l, l1, l2, fun i hi => (g i (Or.inl hi)).trans (l3 i hi)⟩
theorem Ls.q {m : Nat} {sts : List (List (List UInt8))} {sure : Nat} {s : Sto} (h : Ls m sts sure s) (hm : m ≤ 80) : s.over = true ∨ (0 ≤ s.q ∧ s.q < 4294967290) := by
  rcases h.two with ⟨a1, a2, _⟩ | ⟨b1, _⟩
  · have := a1.q0
    exact Or.inr ⟨this, by omega⟩
  · exact Or.inl b1
end Go.Proofs.Yteedglcbodpcdaa

/-
  A statement's calls: a slice of them, opened; one in a variable.
-/
namespace Go.Proofs.Yteedglcbodpcdaa
open Go.ChangeShapes Go.WideShapes Go.ChangeAt Go.RowKit
open Dk (zeros zeros_length)

/-! ### a statement's calls -/
structure OpV where
  K : Int
  N : Int
  page : List UInt8
  A : Option Addr
  n : Nat
  c : Nat
  keep : List UInt8
def opVals (o : OpV) : List Value := .int .i64 o.K :: .int .i64 o.N :: (byteVals o.page ++ [.slice o.A o.n o.c])
structure OpOk (W : World) (o : OpV) : Prop where
  page : o.page.length = 64
  lo : -9223372036854775808 ≤ o.N
  hi : o.N ≤ 9223372036854775807
  keep : ByteRow W o.A o.n o.c o.keep
set_option maxRecDepth 100000 in
theorem opVals_length {W : World} {o : OpV} (h : OpOk W o) : (opVals o).length = 67 := by unfold opVals; simp [byteVals_length, h.page]
structure OpRow (w : World) (A : Option Addr) (n : Nat) (os : List OpV) : Prop where
  len : os.length = n
  small : n ≤ maxLen
  ok : ∀ o ∈ os, OpOk w o
  cells : 0 < n → ∃ b off, A = some ⟨b, off, none⟩ ∧ b < w.heap.size ∧ ∀ i o, os[i]? = some o → w.rangeAt b (off + i * 67) (opVals o)
set_option maxRecDepth 100000 in
theorem cellsO : Try.prog.cellsOf 39 = 67 := by kernel_rfl
set_option maxRecDepth 100000 in
theorem cellsI : Try.prog.cellsOf 3 = 1 := by kernel_rfl
set_option maxRecDepth 100000 in
theorem op_cells {H : Type} {enc : TypeId × Value → H} {W : World} {fuel : Nat} {cs : List Value} {x : DataW H × List MemPlace} (ht : DataW.trod enc Try.prog W 0 (fun _ => true) true fuel 39 cs = some x) :
    ∃ o : OpV, OpOk W o ∧ cs = opVals o := by
  obtain ⟨y0, y1, y2, y3, n, _, hcl, h0, h1, h2, h3⟩ := Joins.trod_struct4 Try.underlying39 ht
  rw [cellsO] at hcl
  obtain ⟨K, e0, _, _⟩ := DataW.trod_int Try.underlying3 h0
  obtain ⟨N, e1, _, w1⟩ := DataW.trod_int Try.underlying3 h1
  obtain ⟨p, hp, e2⟩ := page_cells h2
  obtain ⟨A, m, c, bs, e3, hb⟩ := bytes_cells h3
  have hb1 := bounds_i64 w1
  refine ⟨⟨K, N, p, A, m, c, bs⟩, ⟨hp, hb1.1, hb1.2, hb⟩, ?_⟩
  have c0 : (cs.drop 0).take (Try.prog.cellsOf 3) = [.int .i64 K] := e0
  have c1 : (cs.drop 1).take (Try.prog.cellsOf 3) = [.int .i64 N] := e1
  have c2 : (cs.drop 2).take (Try.prog.cellsOf 35) = byteVals p := e2
  have c3 : (cs.drop 66).take (Try.prog.cellsOf 23) = [.slice A m c] := e3
  rw [cellsI] at c0 c1
  rw [cellsP] at c2
  rw [cellsB] at c3
  have hd : cs = (cs.drop 0).take 1 ++ ((cs.drop 1).take 1 ++ ((cs.drop 2).take 64 ++ (cs.drop 66).take 1)) := by
    have h66 : (cs.drop 66).take 1 = cs.drop 66 := List.take_of_length_le (by rw [List.length_drop]; omega)
    have h2 : (cs.drop 2).take 64 ++ cs.drop 66 = cs.drop 2 := by
      have := List.take_append_drop 64 (cs.drop 2)
      rwa [List.drop_drop] at this
    have h1 : (cs.drop 1).take 1 ++ cs.drop 2 = cs.drop 1 := by
      have := List.take_append_drop 1 (cs.drop 1)
      rwa [List.drop_drop] at this
    rw [h66, h2, h1, List.drop_zero, List.take_append_drop]
  rw [hd, c0, c1, c2, c3]
  rfl
set_option maxRecDepth 100000 in
theorem open_ops {H : Type} {enc : TypeId × Value → H} {W : World} {base : Nat} {v : Value} {d : DataW H} {p : List MemPlace} (hv : Value.okWide Try.prog W .any base 22 v)
    (h : DataW.Trod enc Try.prog W 0 (fun _ => true) true 22 v d p) : ∃ A n c os, v = .slice A n c ∧ OpRow W A n os := by
  obtain ⟨A, n, c, rfl⟩ := okWide_slice Try.underlying22 hv
  obtain ⟨fuel, hf⟩ := h
  rcases Go.Deep.open_slice Try.underlying22 hf with ⟨hcs, _⟩ | ⟨a, len, cap, m, k, D, Pl, hcs, _, hl, hm, hmm, _, hi⟩
  · simp [Value.cells] at hcs
    obtain ⟨rfl, rfl, rfl⟩ := hcs
    exact ⟨_, _, _, [], rfl, rfl, by unfold maxLen; omega, fun o ho => absurd ho (by simp), fun hn => by omega⟩
  · simp [Value.cells] at hcs
    obtain ⟨rfl, rfl, rfl⟩ := hcs
    simp only [if_true] at hmm
    have each : ∀ i, i < n → ∃ o : OpV, OpOk W o ∧ ∀ j u, (opVals o)[j]? = some u → W.cell? ((a.add (i * 67)).add j) = some u := by
      intro i hin
      obtain ⟨cs, hc, ht⟩ := hi i (by omega)
      rw [cellsO] at hc
      obtain ⟨_, hcl, hat⟩ := World.cells?_some hc
      obtain ⟨o, ho, he⟩ := op_cells ht
      refine ⟨o, ho, fun j u hu => ?_⟩
      rw [← he] at hu
      have hj : j < 67 := by have := (List.getElem?_eq_some_iff.1 hu).1; omega
      rw [hat j hj, hu]
    obtain ⟨os, hol, hos⟩ := list_of _ n each
    have hget : ∀ i o, os[i]? = some o → OpOk W o ∧ ∀ j u, (opVals o)[j]? = some u → W.cell? ((a.add (i * 67)).add j) = some u := by
      intro i o ho
      have hin : i < n := by have := (List.getElem?_eq_some_iff.1 ho).1; omega
      obtain ⟨q, hq, h1⟩ := hos i hin
      rw [ho] at hq
      injection hq with hq
      rw [hq]; exact h1
    refine ⟨_, _, _, os, rfl, hol, by omega, fun o ho => ?_, fun hn => ?_⟩
    · obtain ⟨i, hi', he⟩ := List.getElem_of_mem ho
      exact (hget i o (by rw [List.getElem?_eq_getElem hi', he])).1
    · obtain ⟨o0, ho0⟩ : ∃ o, os[0]? = some o := ⟨_, List.getElem?_eq_getElem (by omega)⟩
      obtain ⟨b, off, spot⟩ := a
      have hcell0 := (hget 0 o0 ho0).2 0 _ (show (opVals o0)[0]? = some (.int .i64 o0.K) from rfl)
      have hspot : spot = none := by simpa [Addr.add] using World.cell?_spot hcell0
      subst hspot
      refine ⟨b, off, rfl, ?_, fun i o ho j u hu => ?_⟩
      · rw [Addr.add_mid, Addr.add_mid] at hcell0
        exact World.block_lt_of_cell? W _ hcell0
      · have := (hget i o ho).2 j u hu
        rw [Addr.add_mid, Addr.add_mid] at this
        exact this
/-! ### a call in a variable -/
structure OpVar (W : World) (B : Nat) (o : OpV) : Prop where
  k : W.cell? ⟨B, 0, none⟩ = some (.int .i64 o.K)
  n : W.cell? ⟨B, 1, none⟩ = some (.int .i64 o.N)
  page : W.rangeAt B 2 (byteVals o.page)
  keep : W.cell? ⟨B, 66, none⟩ = some (.slice o.A o.n o.c)
set_option maxRecDepth 100000 in
theorem OpVar.block {W W' : World} {B : Nat} {o : OpV} (h : OpVar W B o) (hb : W'.heap[B]? = W.heap[B]?) : OpVar W' B o :=
  ⟨(World.cell?_of_block (w := W) (a := ⟨B, 0, none⟩) hb).trans h.k, (World.cell?_of_block (w := W) (a := ⟨B, 1, none⟩) hb).trans h.n, rangeAt_block h.page hb, (World.cell?_of_block (w := W) (a := ⟨B, 66, none⟩) hb).trans h.keep⟩
set_option maxRecDepth 100000 in
theorem OpVar.lt {W : World} {B : Nat} {o : OpV} (h : OpVar W B o) : B < W.heap.size := World.block_lt_of_cell? W _ h.k
set_option maxRecDepth 100000 in
theorem OpVar.byBelow {W W' : World} {B : Nat} {o : OpV} (h : OpVar W B o) (hb : Below W.heap.size W W') : OpVar W' B o := h.block (hb.block B h.lt)
set_option maxRecDepth 100000 in
theorem OpVar.byOnly {W W' : World} {B : Nat} {o : OpV} {L : List Nat} (h : OpVar W B o) (ho : Only L W W') (hB : B ∉ L) : OpVar W' B o := h.block (ho.block B h.lt hB)
set_option maxRecDepth 100000 in
theorem opVar_of {W : World} {B : Nat} {o : OpV} (hp : o.page.length = 64) (h : W.rangeAt B 0 (opVals o)) : OpVar W B o where
  k := by
    have := h 0 _ (show (opVals o)[0]? = some (.int .i64 o.K) from rfl)
    rwa [Nat.zero_add] at this
  n := by
    have := h 1 _ (show (opVals o)[1]? = some (.int .i64 o.N) from rfl)
    rwa [Nat.zero_add] at this
  page := fun j v hv => by
    have hj : j < 64 := by
      have := (List.getElem?_eq_some_iff.1 hv).1
      rw [byteVals_length, hp] at this; exact this
    have := h (2 + j) v (by
      unfold opVals
      rw [Nat.add_comm 2 j]
      show ((byteVals o.page ++ [.slice o.A o.n o.c]))[j]? = some v
      rw [List.getElem?_append_left (by rw [byteVals_length, hp]; exact hj)]
      exact hv)
    rwa [Nat.zero_add] at this
  keep := by
    have := h 66 (.slice o.A o.n o.c) (by
      unfold opVals
      show ((byteVals o.page ++ [.slice o.A o.n o.c]))[64]? = some _
      rw [List.getElem?_append_right (by rw [byteVals_length, hp]; exact Nat.le_refl _), byteVals_length, hp]; rfl)
    rwa [Nat.zero_add] at this
set_option maxRecDepth 100000 in
theorem opVals_one (o : OpV) : ∀ v ∈ opVals o, v.oneCell' = true := by
  intro v hv
  unfold opVals at hv
  simp only [List.mem_cons, List.mem_append, List.not_mem_nil, or_false] at hv
  rcases hv with rfl | rfl | hv | rfl
  · rfl
  · rfl
  · exact byteVals_one _ v hv
  · rfl
set_option maxRecDepth 100000 in
theorem op_info : (Try.prog.info? 39).map (·.size) = some 67 := by kernel_rfl
set_option maxRecDepth 100000 in
theorem op_row : ∃ d, Try.prog.underlying 39 = some d ∧ d.isRow = true := ⟨_, Try.underlying39, rfl⟩
def opZero : Array Value := (opVals ⟨0, 0, zeros, none, 0, 0, []⟩).toArray
set_option maxRecDepth 100000 in
theorem opZero_size : opZero.size = 67 := by unfold opZero opVals; simp [byteVals_length, zeros_length]
set_option maxRecDepth 100000 in
theorem zeroOp (w : World) : (zeroValue 39).run Try.prog w = .ok (.agg opZero) w := by kernel_rfl
set_option maxRecDepth 100000 in
/-- a call is loaded out of its slice -/
theorem wpList_load_op {ops : Array Oper} {rest : List Oper} {op : Oper} {a : Act} {Q : Exit → Act → World → Prop} {w : World} {b o : Nat} {x : OpV} (hx : (opVals x).length = 67) (h : w.rangeAt b o (opVals x)) (hgd : op.guard = none) (y : Operand) (ho : op.op = .load 39 y)
    (hy : a.eval y = .pointer (some ⟨b, o, none⟩)) (hK : wpList Try.prog ops Q rest (a.put op.dst (.agg (opVals x).toArray)) w) : wpList Try.prog ops Q (op :: rest) a w := by
  obtain ⟨dd, h1, h2⟩ := op_row
  exact wpList_load_mid hgd 39 y ho b o hy (opVals x) dd h h1 h2 (by rw [op_info, hx]) hK
set_option maxRecDepth 100000 in
/-- and laid into a new variable -/
theorem wpList_store_op {ops : Array Oper} {rest : List Oper} {op : Oper} {a : Act} {Q : Exit → Act → World → Prop} {w : World} {Z : Array Value} {t : TypeId} {v : OpV} (hp : v.page.length = 64) (hgd : op.guard = none) (x y : Operand) (ho : op.op = .store 39 x y)
    (hx : a.eval x = .pointer (some ⟨w.heap.size, 0, none⟩)) (hy : a.eval y = .agg (opVals v).toArray) (hZ : Z.size = 67)
    (h : ∀ W2, OpVar W2 w.heap.size v → Below w.heap.size w W2 → W2.heap.size = w.heap.size + 1 → wpList Try.prog ops Q rest (a.put op.dst undef) W2) :
    wpList Try.prog ops Q (op :: rest) a (w.alloc (.cells Z t)) := by
  have hl : (opVals v).length = 67 := by unfold opVals; simp [byteVals_length, hp]
  have hlen : (opVals v).toArray.size = 67 := by rw [List.size_toArray, hl]
  have ht : (w.alloc (.cells Z t)).there w.heap.size 0 67 := there_new w Z t _ (by omega)
  refine wpList_store_mid hgd 39 x y ho w.heap.size 0 (opVals v).toArray hx hy (by rw [hlen]; exact ht) (by rw [op_info, hlen]) (all_oneCell_toArray (opVals_one v)) (h _ ?_ ?_ ?_)
  · exact opVar_of hp (World.rangeAt_setCells_same _ _ _ _ (by rw [List.toList_toArray, hl]; exact ht))
  · exact below_setCells _ (Nat.le_refl _) _ _ _ ((Below.refl _ _).alloc (Nat.le_refl _) _)
  · rw [heap_setCells]; simp
set_option maxRecDepth 100000 in
/-- a page is loaded out of the variable -/
theorem wpList_load_opPage {ops : Array Oper} {rest : List Oper} {op : Oper} {a : Act} {Q : Exit → Act → World → Prop} {w : World} {B : Nat} {v : OpV} (h : OpVar w B v) (hp : v.page.length = 64) (hgd : op.guard = none) (y : Operand) (ho : op.op = .load 35 y)
    (hy : a.eval y = .pointer (some ⟨B, 2, none⟩)) (hK : wpList Try.prog ops Q rest (a.put op.dst (pageV v.page)) w) : wpList Try.prog ops Q (op :: rest) a w :=
  wpList_load_mid hgd 35 y ho B 2 hy (byteVals v.page) _ h.page Try.underlying35 rfl (by rw [page_info, byteVals_length, hp]) hK
end Go.Proofs.Yteedglcbodpcdaa

/-
  Arrays of twenty pages: in memory and as values.
-/
namespace Go.Proofs.Yteedglcbodpcdaa
open Go.RowKit
open Dk (zeros zeros_length)

set_option maxRecDepth 100000 in
theorem rows_info : (Try.prog.info? 36).map (·.size) = some 1280 := by kernel_rfl
set_option maxRecDepth 100000 in
theorem rows_zero (w : World) : (zeroValue 36).run Try.prog w = .ok (.agg (zeroRow 20)) w := by kernel_rfl
def rowsV (ps : List (List UInt8)) : Value := .agg (byteVals ps.flatten).toArray
set_option maxRecDepth 100000 in
theorem rowsV_def (ps : List (List UInt8)) : Value.agg (byteVals ps.flatten).toArray = rowsV ps := rfl
set_option maxRecDepth 100000 in
theorem flat_length : ∀ (ps : List (List UInt8)), (∀ p ∈ ps, p.length = 64) → ps.flatten.length = ps.length * 64
  | [], _ => rfl
  | p :: r, h => by
    rw [List.flatten_cons, List.length_append, flat_length r (fun q hq => h q (by simp [hq])), h p (by simp), List.length_cons]; omega
set_option maxRecDepth 100000 in
theorem flat_drop : ∀ (ps : List (List UInt8)) (i : Nat), (∀ p ∈ ps, p.length = 64) → ps.flatten.drop (i * 64) = (ps.drop i).flatten
  | [], i, _ => by simp
  | p :: r, 0, _ => by simp
  | p :: r, i + 1, h => by
    have hp := h p (by simp)
    rw [List.flatten_cons, show (i + 1) * 64 = p.length + i * 64 by omega, ← List.drop_drop, List.drop_left, List.drop_succ_cons]
    exact flat_drop r i (fun q hq => h q (by simp [hq]))
set_option maxRecDepth 100000 in
theorem flat_part (ps : List (List UInt8)) (h : ∀ p ∈ ps, p.length = 64) (i : Nat) (p : List UInt8) (hi : ps[i]? = some p) : (ps.flatten.drop (i * 64)).take 64 = p := by
  obtain ⟨hl, he⟩ := List.getElem?_eq_some_iff.1 hi
  have hp : p.length = 64 := h p (List.mem_of_getElem? hi)
  rw [flat_drop ps i h, List.drop_eq_getElem_cons hl, he, List.flatten_cons, List.take_append_of_le_length (by omega), List.take_of_length_le (by omega)]
set_option maxRecDepth 100000 in
theorem flat_cell (ps : List (List UInt8)) (h : ∀ p ∈ ps, p.length = 64) (i : Nat) (p : List UInt8) (hi : ps[i]? = some p) (j : Nat) (hj : j < 64) : (byteVals ps.flatten)[i * 64 + j]? = (byteVals p)[j]? := by
  have e := flat_part ps h i p hi
  unfold byteVals
  rw [List.getElem?_map, List.getElem?_map]
  congr 1
  rw [← e, List.getElem?_take, if_pos hj, List.getElem?_drop]
set_option maxRecDepth 100000 in
theorem RowsAt.flat {w : World} {b : Nat} {ps : List (List UInt8)} (h : RowsAt w b ps) : w.rangeAt b 0 (byteVals ps.flatten) := fun k v hv => by
  have hk : k < ps.length * 64 := by
    have := (List.getElem?_eq_some_iff.1 hv).1
    rw [byteVals_length, flat_length ps h.size] at this; exact this
  obtain ⟨p, hp⟩ : ∃ p, ps[k / 64]? = some p := ⟨_, List.getElem?_eq_getElem (by omega)⟩
  have e : k = k / 64 * 64 + k % 64 := by omega
  rw [e, flat_cell ps h.size _ p hp _ (by omega)] at hv
  have := h.range _ p hp _ v hv
  rw [Nat.zero_add]
  rwa [← e] at this
set_option maxRecDepth 100000 in
theorem rowsAt_flat {w : World} {b : Nat} {ps : List (List UInt8)} (hs : ∀ p ∈ ps, p.length = 64) (hr : w.rangeAt b 0 (byteVals ps.flatten)) (hf : w.there b 0 (ps.length * 64)) : RowsAt w b ps where
  size := hs
  range := fun i p hp j v hv => by
    have hj : j < 64 := by
      have := (List.getElem?_eq_some_iff.1 hv).1
      rw [byteVals_length, hs p (List.mem_of_getElem? hp)] at this; exact this
    have := hr (i * 64 + j) v (by rw [flat_cell ps hs i p hp j hj]; exact hv)
    rwa [Nat.zero_add] at this
  free := hf
set_option maxRecDepth 100000 in
theorem zeroRow_size (n : Nat) : (zeroRow n).size = n * 64 := by unfold zeroRow; rw [List.size_toArray, byteVals_length, List.length_replicate]
set_option maxRecDepth 100000 in
theorem zeroRow20 : (zeroRow 20).size = 1280 := by rw [zeroRow_size]
set_option maxRecDepth 100000 in
theorem RowsAt.loads {w : World} {b : Nat} {ps : List (List UInt8)} (h : RowsAt w b ps) (hl : ps.length = 20) : (loadVar 36 ⟨b, 0, none⟩).run Try.prog w = .ok (rowsV ps) w :=
  run_loadVar_mid (P := Try.prog) w b 0 36 (byteVals ps.flatten) _ h.flat Try.underlying36 rfl (by rw [rows_info, byteVals_length, flat_length ps h.size, hl])
set_option maxRecDepth 100000 in
theorem wpList_load_rows {ops : Array Oper} {rest : List Oper} {op : Oper} {a : Act} {Q : Exit → Act → World → Prop} {w : World} {b : Nat} {ps : List (List UInt8)} (h : RowsAt w b ps) (hl : ps.length = 20) (hgd : op.guard = none) (x : Operand) (ho : op.op = .load 36 x)
    (hx : a.eval x = .pointer (some ⟨b, 0, none⟩)) (hK : wpList Try.prog ops Q rest (a.put op.dst (rowsV ps)) w) : wpList Try.prog ops Q (op :: rest) a w :=
  wpList_load_mid hgd 36 x ho b 0 hx (byteVals ps.flatten) _ h.flat Try.underlying36 rfl (by rw [rows_info, byteVals_length, flat_length ps h.size, hl]) hK
set_option maxRecDepth 100000 in
theorem wpList_load_rowsG {ops : Array Oper} {rest : List Oper} {op : Oper} {a : Act} {Q : Exit → Act → World → Prop} {w : World} {b : Nat} {ps : List (List UInt8)} (h : RowsAt w b ps) (hl : ps.length = 20) (x : Operand) (ho : op.op = .load 36 x)
    (hx : a.eval x = .pointer (some ⟨b, 0, none⟩)) (hw : Region.wanted op (yielded ops a.tmps) = true) (hK : wpList Try.prog ops Q rest (a.put op.dst (rowsV ps)) w) : wpList Try.prog ops Q (op :: rest) a w :=
  BigFrame.wpList_want hw fun _ hK' => wp_load_mid 36 x ho b 0 hx (byteVals ps.flatten) _ h.flat Try.underlying36 rfl (by rw [rows_info, byteVals_length, flat_length ps h.size, hl]) (hK' _ _ hK)
set_option maxRecDepth 100000 in
theorem flat_size {ps : List (List UInt8)} (hs : ∀ p ∈ ps, p.length = 64) (hl : ps.length = 20) : (byteVals ps.flatten).toArray.size = 1280 := by rw [List.size_toArray, byteVals_length, flat_length ps hs, hl]
set_option maxRecDepth 100000 in
theorem wpList_store_newrows {ops : Array Oper} {rest : List Oper} {op : Oper} {a : Act} {Q : Exit → Act → World → Prop} {w : World} {Z : Array Value} {t : TypeId} {ps : List (List UInt8)} (hs : ∀ p ∈ ps, p.length = 64) (hl : ps.length = 20) (hgd : op.guard = none) (x y : Operand) (ho : op.op = .store 36 x y)
    (hx : a.eval x = .pointer (some ⟨w.heap.size, 0, none⟩)) (hy : a.eval y = rowsV ps) (hZ : Z.size = 1280)
    (h : ∀ W2, RowsAt W2 w.heap.size ps → Below w.heap.size w W2 → W2.heap.size = w.heap.size + 1 → wpList Try.prog ops Q rest (a.put op.dst undef) W2) :
    wpList Try.prog ops Q (op :: rest) a (w.alloc (.cells Z t)) := by
  have ht : (w.alloc (.cells Z t)).there w.heap.size 0 1280 := there_new w Z t _ (by omega)
  refine wpList_store_mid hgd 36 x y ho w.heap.size 0 (byteVals ps.flatten).toArray hx hy (by rw [flat_size hs hl]; exact ht) (by rw [rows_info, flat_size hs hl]) (all_oneCell_toArray (byteVals_one _)) (h _ ?_ ?_ ?_)
  · exact rowsAt_flat hs (World.rangeAt_setCells_same _ _ _ _ (by rw [List.toList_toArray, byteVals_length, flat_length ps hs, hl]; exact ht)) (World.there_setCells (by rw [hl]; exact ht) _ _ _)
  · exact below_setCells _ (Nat.le_refl _) _ _ _ ((Below.refl _ _).alloc (Nat.le_refl _) _)
  · rw [heap_setCells]; simp
set_option maxRecDepth 100000 in
theorem RowsAt.putAll {w : World} {b : Nat} {qs : List (List UInt8)} (h : RowsAt w b qs) {ps : List (List UInt8)} (hs : ∀ p ∈ ps, p.length = 64) (hl : ps.length = qs.length) : RowsAt (w.setCells b 0 (byteVals ps.flatten)) b ps :=
  rowsAt_flat hs (World.rangeAt_setCells_same _ _ _ _ (by rw [byteVals_length, flat_length ps hs, hl]; exact h.free)) (World.there_setCells (by rw [hl]; exact h.free) _ _ _)
set_option maxRecDepth 100000 in
theorem wpList_store_rows {ops : Array Oper} {rest : List Oper} {op : Oper} {a : Act} {Q : Exit → Act → World → Prop} {w : World} {b : Nat} {qs ps : List (List UInt8)} (h : RowsAt w b qs) (hq : qs.length = 20) (hs : ∀ p ∈ ps, p.length = 64) (hl : ps.length = 20) (hgd : op.guard = none) (x y : Operand) (ho : op.op = .store 36 x y)
    (hx : a.eval x = .pointer (some ⟨b, 0, none⟩)) (hy : a.eval y = rowsV ps) (hK : wpList Try.prog ops Q rest (a.put op.dst undef) (w.setCells b 0 (byteVals ps.flatten))) : wpList Try.prog ops Q (op :: rest) a w :=
  wpList_store_mid hgd 36 x y ho b 0 (byteVals ps.flatten).toArray hx hy (by rw [flat_size hs hl]; have := h.free; rw [hq] at this; exact this) (by rw [rows_info, flat_size hs hl]) (all_oneCell_toArray (byteVals_one _)) (by simpa using hK)
set_option maxRecDepth 100000 in
theorem yields_rows {ops : Array Oper} {S : World → Prop} {oi : Oper} {a : Act} {b : Nat} {ps : List (List UInt8)} (hw : Region.wanted oi (yielded ops a.tmps) = true) (x : Operand) (ho : oi.op = .load 36 x) (hx : a.eval x = .pointer (some ⟨b, 0, none⟩)) (hl : ps.length = 20) (hS : ∀ w, S w → RowsAt w b ps) :
    YieldsIf Try.prog ops S oi (rowsV ps) a := by
  by_cases h : ∃ w, S w
  · obtain ⟨w0, h0⟩ := h
    exact yieldsIf_load_mid hw 36 x ho b 0 hx (byteVals ps.flatten) _ (fun w h => (hS w h).flat) Try.underlying36 rfl (by rw [rows_info, byteVals_length, flat_length ps (hS w0 h0).size, hl])
  · exact Or.inl ⟨hw, fun w hw' => absurd ⟨w, hw'⟩ h⟩
set_option maxRecDepth 100000 in
theorem results_rows (fn : Func) (s : Nat) (hf : fn.results = #[.cell s 36]) {w : World} {b : Nat} {ps : List (List UInt8)} (tmps : Array Value) (h : RowsAt w b ps) (hl : ps.length = 20) (ht : tmps.getD s undef = .pointer (some ⟨b, 0, none⟩)) :
    (results fn tmps).run Try.prog w = .ok (rowsV ps) w := by
  have hl := h.loads hl
  unfold results
  rw [hf]
  simp only [Array.mapM_eq_mapM_toList, List.mapM_cons, List.mapM_nil, ht, asAddr, Sem.run_bind, Sem.run_pure, Result.andThen_ok, hl, Sem.run_map]
  rfl

end Go.Proofs.Yteedglcbodpcdaa

/-
  The contracts of the statement's great and same; the states: a slice of arrays.
-/
namespace Go.Proofs.Yteedglcbodpcdaa
open Go.RowKit
open Dk (zeros zeros_length)

/-! ### great -/
def bigB (os : List OpV) : Bool := os.any fun o => decide (600 < o.n)
def greatB (n : Nat) (os : List OpV) : Bool := decide (80 < n) || bigB os
theorem bigB_cons (x : OpV) (r : List OpV) : bigB (x :: r) = (decide (600 < x.n) || bigB r) := rfl
set_option maxRecDepth 100000 in
set_option maxHeartbeats 2000000 in
theorem great_any (A : Option Addr) (n c : Nat) (os : List OpV) (w : World) (hrow : OpRow w A n os) : Calls Try.prog 7 #[.slice A n c] w fun e w' => e = .returned (.bool (greatB n os)) ∧ Below w.heap.size w w' := by
  have hsm := hrow.small
  unfold maxLen at hsm
  by_cases h80 : 80 < n
  · have HE : Hid (greatB n os = true) := Lib.hid (by unfold greatB; rw [decide_eq_true h80]; rfl)
    have h80' : (80 : Int) < (n : Int) := by omega
    rw [HE.out]
    clear hrow HE
    go_enter Try.func7, Try.ntmps7
    go_wp2
    go_ret
    exact ⟨rfl, Below.refl _ _⟩
  · have HE : Hid (greatB n os = bigB os) := Lib.hid (by unfold greatB; rw [decide_eq_false h80]; rfl)
    have h80' : ¬ ((80 : Int) < (n : Int)) := by omega
    rw [HE.out]
    have HR := Lib.hid hrow
    clear hrow HE h80
    go_enter Try.func7, Try.ntmps7
    go_wp2_with fail
    go_loopw [10] (fun i wr => ∃ k : Nat, k ≤ n ∧ i = .int .i64 k ∧ Below w.heap.size w wr ∧ bigB os = bigB (os.drop k)) (fun i _ => n - (intOf i).toNat)
    case atStart => exact ⟨0, by omega, rfl, Below.refl _ _, rfl⟩
    case round =>
      obtain ⟨k, hk, rfl, hbel, hany⟩ := hrel
      have HA := Lib.hid hany
      have HBL := Lib.hid hbel
      clear hany hbel
      by_cases hlt : k < n
      · obtain ⟨ob, oo, rfl, hob, hoc⟩ := HR.out.cells (by omega)
        obtain ⟨x, hx⟩ : ∃ x, os[k]? = some x := ⟨_, List.getElem?_eq_getElem (by rw [HR.out.len]; exact hlt)⟩
        have hok := HR.out.ok x (List.mem_of_getElem? hx)
        have HOL := Lib.hid (opVals_length hok)
        have HPG := Lib.hid hok.page
        have hmax := hok.keep.small
        unfold maxLen at hmax
        have HRG : Hid (wr.rangeAt ob (oo + k * 67) (opVals x)) := Lib.hid (fun j v hv => (HBL.out.cell (p := ⟨ob, oo + k * 67 + j, none⟩) hob).trans (hoc k x hx j v hv))
        have HD : Hid (bigB os = (decide (600 < x.n) || bigB (os.drop (k + 1)))) := Lib.hid (by
          obtain ⟨h1, h2⟩ := List.getElem?_eq_some_iff.1 hx
          rw [HA.out, List.drop_eq_getElem_cons h1, h2, bigB_cons])
        have hlt' : (k : Int) < (n : Int) := by omega
        clear hx hok hob hoc
        have hzo := zeroOp
        by_cases h60 : 600 < x.n
        · have h60' : (600 : Int) < (x.n : Int) := by omega
          have HE : Hid (bigB os = true) := Lib.hid (by rw [HD.out, decide_eq_true h60]; rfl)
          go_wp2_with (first
            | ((with_reducible refine wpList_load_op HOL.out HRG.out rfl (.tmp 12) rfl ?_ ?_); (exact rfl))
            | ((with_reducible refine wpList_store_op (v := x) HPG.out rfl (.tmp 4) (.tmp 13) rfl rfl ?_ opZero_size ?_); (exact rfl); intro W2 hP hB2 hz2; have c66 := hP.keep; have HB2 := Lib.hid (HBL.out.trans (hB2.mono HBL.out.size)); clear hP hB2 hz2; generalize wr.heap.size = B at c66 ⊢))
          go_ret
          exact ⟨by rw [HE.out]; rfl, HB2.out⟩
        · have h60' : ¬ (600 : Int) < (x.n : Int) := by omega
          have HE : Hid (bigB os = bigB (os.drop (k + 1))) := Lib.hid (by rw [HD.out, decide_eq_false h60]; rfl)
          go_wp2_with (first
            | ((with_reducible refine wpList_load_op HOL.out HRG.out rfl (.tmp 12) rfl ?_ ?_); (exact rfl))
            | ((with_reducible refine wpList_store_op (v := x) HPG.out rfl (.tmp 4) (.tmp 13) rfl rfl ?_ opZero_size ?_); (exact rfl); intro W2 hP hB2 hz2; have c66 := hP.keep; have HB2 := Lib.hid (HBL.out.trans (hB2.mono HBL.out.size)); clear hP hB2 hz2; generalize wr.heap.size = B at c66 ⊢))
          go_roundw
          case rel => exact ⟨k + 1, by omega, by go_num, HB2.out, HE.out⟩
          case measure => simp [intOf]; omega
      · obtain rfl : k = n := by omega
        have HE : Hid (bigB os = false) := Lib.hid (by rw [HA.out, List.drop_of_length_le (by rw [HR.out.len]; omega)]; rfl)
        go_wp2_with fail
        go_ret
        exact ⟨by rw [HE.out]; rfl, HBL.out⟩

/-! ### same -/
theorem rowsAt_box (w : World) (X : List (List UInt8)) (t : TypeId) (hs : ∀ p ∈ X, p.length = 64) : RowsAt (w.alloc (.cells (byteVals X.flatten).toArray t)) w.heap.size X :=
  rowsAt_flat hs (rowAt_new w _ t).range (there_new w _ t _ (by rw [List.size_toArray, byteVals_length, flat_length X hs]; exact Nat.le_refl _))
set_option maxRecDepth 100000 in
set_option maxHeartbeats 4000000 in
theorem same_any {w : World} {d l m : Nat} {s : Dk.St} (h : DiskAt w d l m s) (X : List (List UInt8)) (hX : X.length = 20) (hs : ∀ p ∈ X, p.length = 64) : Calls Try.prog 17 #[.pointer (some ⟨d, 0, none⟩), rowsV X] w fun e w' =>
    e = .returned (.bool (decide (∀ i : Nat, i < 20 → Dk.lastsP s (i : Int) = X.getD i []))) ∧ Below w.heap.size w w' := by
  have HR0 := Lib.hid (rowsAt_box w X 36 hs)
  have HD0 := Lib.hid (h.alloc (.cells (byteVals X.flatten).toArray 36))
  have HB0 : Hid (Below w.heap.size w (w.alloc (.cells (byteVals X.flatten).toArray 36))) := Lib.hid ((Below.refl _ _).alloc (Nat.le_refl _) _)
  have HXL := Lib.hid hX
  have HXS := Lib.hid hs
  have HLL := Lib.hid (fun i => Dk.lastsP_len h.ok i)
  clear h hX hs
  generalize hRR : decide (∀ i : Nat, i < 20 → Dk.lastsP s (i : Int) = X.getD i []) = RR
  have HRR := Lib.hid hRR
  clear hRR
  unfold rowsV
  go_enter Try.func17, Try.ntmps17
  go_wp2_with fail
  generalize w.alloc (.cells (byteVals X.flatten).toArray 36) = w1 at HR0 HD0 HB0 ⊢
  generalize w.heap.size = B at HR0 ⊢
  go_loopw [6] (fun i wr => ∃ k : Nat, k ≤ 20 ∧ i = .int .i64 k ∧ (∀ j, j < k → Dk.lastsP s (j : Int) = X.getD j []) ∧ RowsAt wr B X ∧ DiskAt wr d l m s ∧ Below w.heap.size w wr) (fun i _ => 20 - (intOf i).toNat)
  case atStart => exact ⟨0, by omega, rfl, fun j hj => by omega, HR0.out, HD0.out, HB0.out⟩
  case round =>
    obtain ⟨k, hk, rfl, hall, hrw, hdk, hbl⟩ := hrel
    have HAL := Lib.hid hall
    have HRW := Lib.hid hrw
    have HDK := Lib.hid hdk
    have HB := Lib.hid hbl
    clear hall hrw hdk hbl HR0 HD0 HB0
    by_cases hlt : k < 20
    · have hlt' : (k : Int) < 20 := by omega
      obtain ⟨q, hq⟩ : ∃ q, X[k]? = some q := ⟨_, List.getElem?_eq_getElem (by rw [HXL.out]; exact hlt)⟩
      have HQ := Lib.hid hq
      have HQL := Lib.hid (HXS.out q (List.mem_of_getElem? hq))
      have HQD : Hid (X.getD k [] = q) := Lib.hid (by rw [List.getD_eq_getElem?_getD, hq]; rfl)
      have HLS := Lib.hid (fun (W : World) (hW : DiskAt W d l m s) => lasts_any hW (k : Int))
      obtain ⟨p, hp⟩ : ∃ p, Dk.lastsP s (k : Int) = p := ⟨_, rfl⟩
      have HP := Lib.hid hp
      have HPL : Hid (p.length = 64) := Lib.hid (hp ▸ HLL.out (k : Int))
      rw [hp] at HLS
      clear hq hp
      have HN1 := fun (x y : Operand) (w : World) => run_neGuard_page w x y p q
      by_cases e : p = q
      · have HEQ : Hid (∀ j, j < k + 1 → Dk.lastsP s (j : Int) = X.getD j []) := Lib.hid (fun j hj => by
          by_cases hjk : j < k
          · exact HAL.out j hjk
          · obtain rfl : j = k := by omega
            rw [HP.out, HQD.out, e])
        have HN2 : ∀ w : World, (binOp .neq 35 (pageV p) (pageV q)).run Try.prog w = .ok (.bool false) w := fun w => by
          rw [run_neq_page w p q HPL.out HQL.out, decide_eq_true e]; rfl
        clear e
        go_wp2_with fail
        refine wp_region_noPanic ?_
        refine wp_region_held_drew (S := fun W => RowsAt W B X ∧ DiskAt W d l m s) (by kernel_rfl) ⟨HRW.out.block rfl, HDK.out.drew⟩ (fun hHeld => ?_)
        have HBL : Hid (Below w.heap.size w wr.drew) := Lib.hid HB.out.drew
        clear HB
        generalize wr.drew = w4 at HBL hHeld ⊢
        refine take_at (i := 0) (d := some 9) (v := .pointer (some ⟨d, 0, none⟩)) rfl rfl (by kernel_rfl) (by kernel_rfl) (by kernel_rfl) (fun _ _ _ h => h) (Or.inl ⟨by kernel_rfl, ?_⟩) hHeld ?_
        · intro w hSw; clear hSw; go_simp
        (try simp only [Act.put, List.setIfInBounds_toArray, List.set_cons_zero, List.set_cons_succ])
        refine take_at (i := 1) (d := some 10) (v := .int .i64 (k : Int)) rfl rfl (by kernel_rfl) (by kernel_rfl) (by kernel_rfl) (fun _ _ _ h => h) (Or.inl ⟨by kernel_rfl, ?_⟩) hHeld ?_
        · intro w hSw; clear hSw; go_simp
        (try simp only [Act.put, List.setIfInBounds_toArray, List.set_cons_zero, List.set_cons_succ])
        refine take_at (i := 3) (d := some 12) (v := .int .i64 (k : Int)) rfl rfl (by kernel_rfl) (by kernel_rfl) (by kernel_rfl) (fun _ _ _ h => h) (Or.inl ⟨by kernel_rfl, ?_⟩) hHeld ?_
        · intro w hSw; clear hSw; go_simp
        (try simp only [Act.put, List.setIfInBounds_toArray, List.set_cons_zero, List.set_cons_succ])
        refine take_at (i := 4) (d := some 13) (v := .pointer (some ⟨B, k * 64, none⟩)) rfl rfl (by kernel_rfl) (by kernel_rfl) (by kernel_rfl) (fun _ _ _ h => h) (Or.inl ⟨by kernel_rfl, ?_⟩) hHeld ?_
        · intro w hSw; clear hSw; go_simp
        (try simp only [Act.put, List.setIfInBounds_toArray, List.set_cons_zero, List.set_cons_succ])
        refine take_at (i := 5) (d := some 14) (v := pageV q) rfl rfl (by kernel_rfl) (by kernel_rfl) (by kernel_rfl) (fun _ _ _ h => h) (yields_page (by kernel_rfl) (.tmp 13) rfl rfl HQL.out (fun _ hSw => hSw.1.range k q HQ.out)) hHeld ?_
        (try simp only [Act.put, List.setIfInBounds_toArray, List.set_cons_zero, List.set_cons_succ])
        refine wpAnyH_ready (rs := [2]) (by kernel_rfl) (by simp) ?_
        refine AllReadyH.cons rfl (fun K hK => ?_) AllReadyH.nil
        go_simp
        (go_at_call 22; refine (HLS.out _ hHeld.2).mono ?_; rintro e W9 ⟨rfl, hb9⟩)
        (try go_wp2_with fail)
        refine hK.out _ _ ⟨hHeld.1.block (hb9.block _ (hHeld.1.lt (by rw [HXL.out]; omega))), hHeld.2.below hb9⟩ (fun hHeld => ?_)
        clear hK K
        (try simp only [Act.put, List.setIfInBounds_toArray, List.set_cons_zero, List.set_cons_succ])
        refine take_at (i := 6) (d := some 15) (v := .bool false) rfl rfl (by kernel_rfl) (by kernel_rfl) (by kernel_rfl) (fun _ _ _ h => h) (Or.inl ⟨by kernel_rfl, ?_⟩) hHeld ?_
        · intro w hSw; clear hSw; go_simp
        (try simp only [Act.put, List.setIfInBounds_toArray, List.set_cons_zero, List.set_cons_succ])
        refine wpAnyH_done (by kernel_rfl) ?_ _
        refine NoPanic.normal ?_
        go_wp2_with fail
        go_roundw
        case rel => exact ⟨k + 1, by omega, by go_num, HEQ.out, hHeld.1, hHeld.2, HBL.out.trans (hb9.mono HBL.out.size)⟩
        case measure => simp [intOf]; omega
      · have HEQ : Hid (RR = false) := Lib.hid (by
          rw [← HRR.out, decide_eq_false_iff_not]
          intro hh
          have := hh k hlt
          rw [HP.out, HQD.out] at this
          exact e this)
        have HN2 : ∀ w : World, (binOp .neq 35 (pageV p) (pageV q)).run Try.prog w = .ok (.bool true) w := fun w => by
          rw [run_neq_page w p q HPL.out HQL.out, decide_eq_false e]; rfl
        clear e
        go_wp2_with fail
        refine wp_region_noPanic ?_
        refine wp_region_held_drew (S := fun W => RowsAt W B X ∧ DiskAt W d l m s) (by kernel_rfl) ⟨HRW.out.block rfl, HDK.out.drew⟩ (fun hHeld => ?_)
        have HBL : Hid (Below w.heap.size w wr.drew) := Lib.hid HB.out.drew
        clear HB
        generalize wr.drew = w4 at HBL hHeld ⊢
        refine take_at (i := 0) (d := some 9) (v := .pointer (some ⟨d, 0, none⟩)) rfl rfl (by kernel_rfl) (by kernel_rfl) (by kernel_rfl) (fun _ _ _ h => h) (Or.inl ⟨by kernel_rfl, ?_⟩) hHeld ?_
        · intro w hSw; clear hSw; go_simp
        (try simp only [Act.put, List.setIfInBounds_toArray, List.set_cons_zero, List.set_cons_succ])
        refine take_at (i := 1) (d := some 10) (v := .int .i64 (k : Int)) rfl rfl (by kernel_rfl) (by kernel_rfl) (by kernel_rfl) (fun _ _ _ h => h) (Or.inl ⟨by kernel_rfl, ?_⟩) hHeld ?_
        · intro w hSw; clear hSw; go_simp
        (try simp only [Act.put, List.setIfInBounds_toArray, List.set_cons_zero, List.set_cons_succ])
        refine take_at (i := 3) (d := some 12) (v := .int .i64 (k : Int)) rfl rfl (by kernel_rfl) (by kernel_rfl) (by kernel_rfl) (fun _ _ _ h => h) (Or.inl ⟨by kernel_rfl, ?_⟩) hHeld ?_
        · intro w hSw; clear hSw; go_simp
        (try simp only [Act.put, List.setIfInBounds_toArray, List.set_cons_zero, List.set_cons_succ])
        refine take_at (i := 4) (d := some 13) (v := .pointer (some ⟨B, k * 64, none⟩)) rfl rfl (by kernel_rfl) (by kernel_rfl) (by kernel_rfl) (fun _ _ _ h => h) (Or.inl ⟨by kernel_rfl, ?_⟩) hHeld ?_
        · intro w hSw; clear hSw; go_simp
        (try simp only [Act.put, List.setIfInBounds_toArray, List.set_cons_zero, List.set_cons_succ])
        refine take_at (i := 5) (d := some 14) (v := pageV q) rfl rfl (by kernel_rfl) (by kernel_rfl) (by kernel_rfl) (fun _ _ _ h => h) (yields_page (by kernel_rfl) (.tmp 13) rfl rfl HQL.out (fun _ hSw => hSw.1.range k q HQ.out)) hHeld ?_
        (try simp only [Act.put, List.setIfInBounds_toArray, List.set_cons_zero, List.set_cons_succ])
        refine wpAnyH_ready (rs := [2]) (by kernel_rfl) (by simp) ?_
        refine AllReadyH.cons rfl (fun K hK => ?_) AllReadyH.nil
        go_simp
        (go_at_call 22; refine (HLS.out _ hHeld.2).mono ?_; rintro e W9 ⟨rfl, hb9⟩)
        (try go_wp2_with fail)
        refine hK.out _ _ ⟨hHeld.1.block (hb9.block _ (hHeld.1.lt (by rw [HXL.out]; omega))), hHeld.2.below hb9⟩ (fun hHeld => ?_)
        clear hK K
        (try simp only [Act.put, List.setIfInBounds_toArray, List.set_cons_zero, List.set_cons_succ])
        refine take_at (i := 6) (d := some 15) (v := .bool true) rfl rfl (by kernel_rfl) (by kernel_rfl) (by kernel_rfl) (fun _ _ _ h => h) (Or.inl ⟨by kernel_rfl, ?_⟩) hHeld ?_
        · intro w hSw; clear hSw; go_simp
        (try simp only [Act.put, List.setIfInBounds_toArray, List.set_cons_zero, List.set_cons_succ])
        refine wpAnyH_done (by kernel_rfl) ?_ _
        refine NoPanic.normal ?_
        go_wp2_with fail
        go_ret
        exact ⟨by rw [HEQ.out]; rfl, HBL.out.trans (hb9.mono HBL.out.size)⟩
    · obtain rfl : k = 20 := by omega
      have HEQ : Hid (RR = true) := Lib.hid (by rw [← HRR.out, decide_eq_true_iff]; exact HAL.out)
      go_wp2_with fail
      go_ret
      exact ⟨by rw [HEQ.out]; rfl, HB.out⟩

/-! ### the states -/
set_option maxRecDepth 100000 in
theorem info_rows : (Try.prog.info? 36).map (fun i => (i.zero, i.size, i.bytes)) = some (some (.agg (zeroRow 20)), 1280, 1280) := by kernel_rfl
set_option maxRecDepth 100000 in
theorem zero_rows : byteVals (List.replicate 20 zeros).flatten = byteVals (List.replicate (20 * 64) 0) := by unfold zeros; rw [List.flatten_replicate_replicate]
set_option maxRecDepth 100000 in
theorem built_rows0 : Try.prog.built 36 [] = some (zeroRow 20) := by kernel_rfl
set_option maxRecDepth 100000 in
theorem zeroRow_eq : zeroRow 20 = (byteVals (List.replicate 20 zeros).flatten).toArray := by unfold zeroRow; rw [zero_rows]
set_option maxRecDepth 100000 in
theorem run_buildRows1 (w : World) (X : List (List UInt8)) (hX : X.length = 20) (hs : ∀ p ∈ X, p.length = 64) : (Instr.buildSlice 37 1 #[(0, rowsV X)]).run Try.prog w = .ok (.slice (some ⟨w.heap.size, 0, none⟩) 1 1) (w.alloc (.cells (byteVals X.flatten).toArray 36)) := by
  obtain ⟨i, hi, hz, hsz, _⟩ := info_parts info_rows
  refine run_buildSlice w 37 36 1 #[(0, rowsV X)] _ i _ Try.underlying37 hi hz (by rw [hsz]; omega) (by rw [hsz]; omega) ?_
  rw [hsz]
  have h := Great.fill_whole (s := 1280) (by omega) [rowsV X] ((Array.range (1 * 1280)).map ((Value.agg (zeroRow 20)).cells[· % (Value.agg (zeroRow 20)).cells.size]!)) (fun v hv => by
    rw [List.mem_singleton] at hv
    rw [hv]
    show (byteVals X.flatten).toArray.size = 1280
    exact flat_size hs hX) (by simp)
  refine h.trans ?_
  simp [rowsV, Value.cells]
set_option maxRecDepth 100000 in
theorem wpList_buildRows1 {ops : Array Oper} {rest : List Oper} {o : Oper} {a : Act} {w : World} {Q : Exit → Act → World → Prop} (X : List (List UInt8)) (hX : X.length = 20) (hs : ∀ p ∈ X, p.length = 64) (x : Operand) (ho : o.op = .buildSlice 37 1 #[(0, x)]) (hw : Region.wanted o (yielded ops a.tmps) = true) (hx : a.eval x = rowsV X)
    (h : wpList Try.prog ops Q rest (a.put o.dst (.slice (some ⟨w.heap.size, 0, none⟩) 1 1)) (w.alloc (.cells (byteVals X.flatten).toArray 36))) : wpList Try.prog ops Q (o :: rest) a w :=
  BigFrame.wpList_want hw fun _ hK => by
    have hr := run_buildRows1 w X hX hs
    unfold Oper.wp execOp
    simp only [ho, List.map_toArray, List.map_cons, List.map_nil, hx, Sem.run_bind, hr, Result.andThen_ok]
    exact hK _ _ h
def stsV (sts : List (List (List UInt8))) : List Value := sts.flatMap fun X => byteVals X.flatten
set_option maxRecDepth 100000 in
theorem stsV_length (sts : List (List (List UInt8))) (h : ∀ x ∈ sts, x.length = 20 ∧ ∀ p ∈ x, p.length = 64) : (stsV sts).length = sts.length * 1280 := by
  induction sts with
  | nil => rfl
  | cons x r ih =>
    have hx := h x (by simp)
    unfold stsV at *
    rw [List.flatMap_cons, List.length_append, ih (fun y hy => h y (by simp [hy])), byteVals_length, flat_length x hx.2, hx.1, List.length_cons]; omega
set_option maxRecDepth 100000 in
theorem stsV_at (sts : List (List (List UInt8))) (h : ∀ x ∈ sts, x.length = 20 ∧ ∀ p ∈ x, p.length = 64) : ∀ (i : Nat) (x : List (List UInt8)) (j : Nat) (v : Value), sts[i]? = some x → (byteVals x.flatten)[j]? = some v → (stsV sts)[i * 1280 + j]? = some v := by
  induction sts with
  | nil => intro i x j v hx; simp at hx
  | cons y r ih =>
    intro i x j v hx hv
    have hy := h y (by simp)
    have hyl : (byteVals y.flatten).length = 1280 := by rw [byteVals_length, flat_length y hy.2, hy.1]
    unfold stsV at *
    rw [List.flatMap_cons]
    cases i with
    | zero =>
      simp at hx
      subst hx
      have hj : j < 1280 := by rw [← hyl]; exact (List.getElem?_eq_some_iff.1 hv).1
      rw [Nat.zero_mul, Nat.zero_add, List.getElem?_append_left (by rw [hyl]; exact hj)]
      exact hv
    | succ i =>
      rw [List.getElem?_append_right (by rw [hyl]; omega), hyl, show (i + 1) * 1280 + j - 1280 = i * 1280 + j by omega]
      exact ih (fun z hz => h z (by simp [hz])) i x j v (by simpa using hx) hv
/-- the states in memory: a slice that the call owns -/
def StsAt (W : World) (base : Nat) (v : Value) (sts : List (List (List UInt8))) : Prop := W.ownsRow base 36 1280 v sts.length (stsV sts)
set_option maxRecDepth 100000 in
theorem sts_one (w : World) (base : Nat) (X : List (List UInt8)) (hX : X.length = 20) (hs : ∀ p ∈ X, p.length = 64) (hb : base ≤ w.heap.size) : StsAt (w.alloc (.cells (byteVals X.flatten).toArray 36)) base (.slice (some ⟨w.heap.size, 0, none⟩) 1 1) [X] := by
  have hl : (byteVals X.flatten).length = 1280 := by rw [byteVals_length, flat_length X hs, hX]
  have e : stsV [X] = byteVals X.flatten := by unfold stsV; simp
  refine ⟨by rw [e, hl]; rfl, Or.inr ⟨w.heap.size, 1, (byteVals X.flatten).toArray, rfl, hb, heap_alloc_new w _, Nat.le_refl _, by unfold maxLen; omega, by rw [List.size_toArray, hl], ?_⟩⟩
  rw [e, List.toList_toArray]
  exact List.take_of_length_le (by rw [hl]; simp)
set_option maxRecDepth 100000 in
/-- one of them -/
theorem StsAt.at {W : World} {base : Nat} {A : Option Addr} {n c : Nat} {sts : List (List (List UInt8))} (h : StsAt W base (.slice A n c) sts) (hs : ∀ x ∈ sts, x.length = 20 ∧ ∀ p ∈ x, p.length = 64) (h0 : 0 < sts.length) : n = sts.length ∧ n ≤ c ∧ c ≤ maxLen ∧ ∃ g, A = some ⟨g, 0, none⟩ ∧ base ≤ g ∧ g < W.heap.size ∧ ∀ i x, sts[i]? = some x → W.rangeAt g (i * 1280) (byteVals x.flatten) := by
  obtain ⟨h1, h2⟩ := h
  rcases h2 with ⟨e, e2⟩ | ⟨g, cap, cur, e, hb, hg, hc1, hc2, hsz, htk⟩
  · exfalso; omega
  · injection e with e e' e''
    subst e; subst e'; subst e''
    refine ⟨rfl, hc1, hc2, g, rfl, hb, (Array.getElem?_eq_some_iff.1 hg).1, fun i x hxi j v hv => ?_⟩
    have hf := stsV_at sts hs i x j v hxi hv
    rw [← htk] at hf
    have hlt : i * 1280 + j < sts.length * 1280 := by
      have := (List.getElem?_eq_some_iff.1 hf).1
      rw [List.length_take] at this; omega
    rw [List.getElem?_take_of_lt hlt] at hf
    simp only [World.cell?, hg]
    simp only [Option.isSome_none, Bool.false_eq_true, if_false]
    rw [← Array.getElem?_toList]
    exact hf
end Go.Proofs.Yteedglcbodpcdaa

/-
  StoreLasts in memory: a store, and the states that were kept.
-/
namespace Go.Proofs.Yteedglcbodpcdaa
open Go.RowKit
open Dk (zeros zeros_length)
open Jn (Chg)

theorem owns_block {w w' : World} {base : Nat} {e : TypeId} {size : Nat} {v : Value} {n : Nat} {xs : List Value} (h : w.ownsRow base e size v n xs) (hb : ∀ g, v.ownBlock = some g → w'.heap[g]? = w.heap[g]?) : w'.ownsRow base e size v n xs := by
  refine ⟨h.1, ?_⟩
  rcases h.2 with hn | ⟨g, cap, cur, rfl, h1, h2, h3⟩
  · exact Or.inl hn
  · exact Or.inr ⟨g, cap, cur, rfl, h1, (hb g rfl).trans h2, h3⟩
structure LsW (w : World) (b : Blk) (s : Sto) (v : Value) (sts : List (List (List UInt8))) (W : World) : Prop where
  st : StoreAt W b s
  sts : StsAt W w.heap.size v sts
  bel : Below w.heap.size w W
  old : ∀ k ∈ b.all, w.heap.size ≤ k
  far : ∀ k ∈ b.all, v.ownBlock ≠ some k
theorem LsW.byBelow {w : World} {b : Blk} {s : Sto} {v : Value} {sts : List (List (List UInt8))} {W W' : World} (h : LsW w b s v sts W) (hb : Below W.heap.size W W') : LsW w b s v sts W' :=
  ⟨h.st.below hb, owns_block h.sts (fun g hg => hb.block g (h.sts.lt g hg).2), h.bel.trans (hb.mono h.bel.size), h.old, h.far⟩
theorem LsW.byOnly {w : World} {b : Blk} {s s' : Sto} {v : Value} {sts : List (List (List UInt8))} {W W' : World} {L : List Nat} (h : LsW w b s v sts W) (hs : StoreAt W' b s') (ho : Only L W W') (hL : ∀ k ∈ L, k ∈ b.all) : LsW w b s' v sts W' :=
  ⟨hs, owns_block h.sts (fun g hg => ho.block g (h.sts.lt g hg).2 (fun q => h.far g (hL g q) hg)), Only.toBelowOld h.bel ho h.bel.size (fun k hk => h.old k (hL k hk)), h.old, h.far⟩
/-- another block -/
theorem LsW.byOther {w : World} {b : Blk} {s : Sto} {v : Value} {sts : List (List (List UInt8))} {W W' : World} {B : Nat} (h : LsW w b s v sts W) (ho : Only [B] W W') (h1 : B ∉ b.all) (h2 : v.ownBlock ≠ some B) (h3 : w.heap.size ≤ B) : LsW w b s v sts W' :=
  ⟨h.st.only ho (fun k hk q => h1 (by rw [List.mem_singleton] at q; exact q ▸ hk)), owns_block h.sts (fun g hg => ho.block g (h.sts.lt g hg).2 (fun q => h2 (by rw [List.mem_singleton] at q; rw [← q]; exact hg))), Only.toBelowOld h.bel ho h.bel.size (fun k hk => by rw [List.mem_singleton] at hk; omega), h.old, h.far⟩
/-- a state more -/
theorem LsW.grow {w : World} {b : Blk} {s : Sto} {v v' : Value} {sts : List (List (List UInt8))} {X : List (List UInt8)} {W W' : World} (h : LsW w b s v sts W) (hrow : W'.ownsRow w.heap.size 36 1280 v' (sts.length + 1) (stsV sts ++ byteVals X.flatten))
    (hg : (W.alloc (.cells (byteVals X.flatten).toArray 36)).grownBy W' v.ownBlock) (hloc : v'.ownBlock = v.ownBlock ∨ v'.ownBlock = some (W.alloc (.cells (byteVals X.flatten).toArray 36)).heap.size) : LsW w b s v' (sts ++ [X]) W' where
  st := (h.st.alloc (.cells (byteVals X.flatten).toArray 36)).blocks (fun k hk => hg.block k (by have := h.st.lt k hk; simp; omega) (fun e => h.far k hk e.symm))
  sts := by
    show W'.ownsRow _ _ _ _ (sts ++ [X]).length (stsV (sts ++ [X]))
    have e : stsV (sts ++ [X]) = stsV sts ++ byteVals X.flatten := by unfold stsV; simp
    rw [e, List.length_append, List.length_singleton]; exact hrow
  bel := (h.bel.alloc h.bel.size _).grown hg (by have := h.bel.size; simp; omega) (fun j hj => (h.sts.lt j hj).1)
  old := h.old
  far := fun k hk => by
    rcases hloc with e | e
    · rw [e]; exact h.far k hk
    · rw [e]
      have := h.st.lt k hk
      intro q
      injection q with q
      simp at q
      omega
/-- the pages that were read so far -/
def rdK (s : Sto) (j : Nat) : List (List UInt8) := (nowL s).take j ++ List.replicate (20 - j) zeros
theorem nowL_length (s : Sto) : (nowL s).length = 20 := by unfold nowL; simp
theorem rdK_zero (s : Sto) : rdK s 0 = List.replicate 20 zeros := by unfold rdK; simp
theorem rdK_all (s : Sto) : rdK s 20 = nowL s := by unfold rdK; rw [List.take_of_length_le (by rw [nowL_length]; exact Nat.le_refl _)]; simp
theorem rdK_length (s : Sto) (j : Nat) (h : j ≤ 20) : (rdK s j).length = 20 := by unfold rdK; rw [List.length_append, List.length_take, nowL_length, List.length_replicate]; omega
theorem rdK_step (s : Sto) (j : Nat) (h : j < 20) : (rdK s j).set j (sreadP s (j : Int)) = rdK s (j + 1) := by
  unfold rdK
  have hl : ((nowL s).take j).length = j := by rw [List.length_take, nowL_length]; omega
  rw [List.set_append_right _ _ (by omega), hl, Nat.sub_self, show 20 - j = (20 - (j + 1)) + 1 by omega, List.replicate_succ, List.set_cons_zero]
  have e : (nowL s)[j]? = some (sreadP s (j : Int)) := by
    unfold nowL
    rw [List.getElem?_map, List.getElem?_range h]; rfl
  obtain ⟨h1, h2⟩ := List.getElem?_eq_some_iff.1 e
  rw [List.take_succ_eq_append_getElem h1, h2, List.append_assoc]
  rfl
/-- now: an array in a variable -/
structure NowW (w : World) (b : Blk) (s : Sto) (v : Value) (sts : List (List (List UInt8))) (B j : Nat) (W : World) : Prop where
  ls : LsW w b s v sts W
  rows : RowsAt W B (rdK s j)
  lt : B < W.heap.size
  b1 : B ∉ b.all
  b2 : v.ownBlock ≠ some B
  b3 : w.heap.size ≤ B
theorem NowW.byBelow {w : World} {b : Blk} {s : Sto} {v : Value} {sts : List (List (List UInt8))} {B j : Nat} {W W' : World} (h : NowW w b s v sts B j W) (hb : Below W.heap.size W W') : NowW w b s v sts B j W' :=
  ⟨h.ls.byBelow hb, h.rows.block (hb.block B h.lt), Nat.lt_of_lt_of_le h.lt hb.size, h.b1, h.b2, h.b3⟩
theorem NowW.put {w : World} {b : Blk} {s : Sto} {v : Value} {sts : List (List (List UInt8))} {B j : Nat} {W : World} (h : NowW w b s v sts B j W) (hj : j < 20) (hp : (sreadP s (j : Int)).length = 64) : NowW w b s v sts B (j + 1) (W.setCells B (j * 64) (byteVals (sreadP s (j : Int)))) := by
  have ho : Only [B] W (W.setCells B (j * 64) (byteVals (sreadP s (j : Int)))) := Only.setCells B (by simp) _ _ _ (Only.refl _ _)
  refine ⟨h.ls.byOther ho h.b1 h.b2 h.b3, ?_, by rw [heap_setCells]; exact h.lt, h.b1, h.b2, h.b3⟩
  have := h.rows.put j (by rw [rdK_length _ _ (by omega)]; exact hj) _ hp
  rw [rdK_step s j hj] at this
  exact this
theorem now_start {w : World} {b : Blk} {s : Sto} {v : Value} {sts : List (List (List UInt8))} {W : World} (h : LsW w b s v sts W) (t : TypeId) : NowW w b s v sts W.heap.size 0 (W.alloc (.cells (zeroRow 20) t)) := by
  refine ⟨h.byBelow ((Below.refl _ _).alloc (Nat.le_refl _) _), by rw [rdK_zero]; exact rowsAt_new W 20 t, by simp, fun q => by have := h.st.lt _ q; omega, fun q => by have := (h.sts.lt _ q).2; omega, h.bel.size⟩
/-- a Keep behind it -/
theorem NowW.keep {w : World} {b : Blk} {s s' : Sto} {v : Value} {sts : List (List (List UInt8))} {B : Nat} {W W' : World} {L : List Nat} (h : NowW w b s v sts B 20 W) (hs : StoreAt W' b s') (ho : Only L W W') (hL : ∀ k ∈ L, k ∈ b.all) : LsW w b s' v sts W' ∧ RowsAt W' B (nowL s) := by
  refine ⟨h.ls.byOnly hs ho hL, ?_⟩
  have := h.rows.block (ho.block B h.lt (fun q => h.b1 (hL B q)))
  rw [rdK_all] at this
  exact this
end Go.Proofs.Yteedglcbodpcdaa
