/-
  Opens, over all that a crash may leave.
-/
import Derived.Test.YtlamllnflbdcjaaJgreat
namespace Go.Proofs.Ytlamllnflbdcjaa
open Go.RowKit
open Dk (zeros zeros_length)
open Hd (Head rightB pageH)
open Jn (Chg quietH liveH Cl Quiet LiveD May Same upd)

theorem read_clean {s : Dk.St} (h : Cl s) {i : Nat} (hi : i < s.last.length) : Dk.readP s (i : Int) = s.last.getD i [] := by
  unfold Dk.readP
  rw [if_pos (Dk.reach_mk h.up (Dk.has_mk hi)), Int.toNat_natCast]
  unfold Dk.nowAt
  rw [Jn.cacheAt_none h.clean]; rfl
theorem rdN_clean {s : Dk.St} (h : Cl s) {a n : Nat} (hn : a + n ≤ s.last.length) {ps : List (List UInt8)} (hl : ps.length = n) (hp : ∀ i, i < n → s.last.getD (a + i) [] = ps.getD i []) : rdN s a n = ps := by
  refine Jn.getD_ext [] (by rw [rdN_length, hl]) (fun i hi => ?_)
  rw [rdN_length] at hi
  have e : (rdN s a n).getD i [] = Dk.readP s ((a + i : Nat) : Int) := by
    unfold rdN
    rw [List.getD_eq_getElem?_getD, List.getElem?_map, List.getElem?_range hi]; rfl
  rw [e, read_clean h (by omega), hp i hi]
/-- an Open over a head that does not count -/
theorem openQ_any {w : World} {d l m a z r : Nat} {s : Dk.St} {B : Int} {X : List (List UInt8)} (h : DiskAt w d l m s) (hc : Cl s) (hq : Quiet a z B s.last X) (h0 : 0 ≤ B) (hB : B < 200) (ha : a ≤ 900) (hz : z ≤ 900) (hz0 : 0 < z) (hroom : RoomIs z r) (hr : 1 ≤ r) (hreg : a + z ≤ s.last.length) :
    Calls Try.prog 7 #[.pointer (some ⟨d, 0, none⟩), .int .i64 (a : Int), .int .i64 (z : Int)] w (Opened w d l m a z (Jn.runs s [[⟨(a : Int), pageH (quietH (Hd.nextN [s.last.getD a []]))⟩]]) (fun cnt q => cnt = 0 ∧ q = Hd.nextN [s.last.getD a []])) := by
  have e := read_clean hc (show a < s.last.length by omega)
  obtain ⟨n0, n1, n2⟩ := Jn.next_one _ B hq.low h0
  refine open_with h ha hz hroom hr hc.up hreg _ _ (fun W j hj hd hjd => ?_)
  have := begin_quiet hj hd hjd ha hc.up (by omega) (by rw [e]; exact hq.quiet) (by rw [e]; omega)
  rw [e] at this
  exact this.mono fun e w' ⟨h1, h2, h3, h4⟩ => ⟨0, _, h1, h2, h3, ⟨rfl, rfl⟩, h4⟩
/-- an Open over a head that counts -/
theorem openL_any {w : World} {d l m a z r : Nat} {s : Dk.St} {B : Int} {cs : List Chg} {X : List (List UInt8)} {q : Int} (h : DiskAt w d l m s) (hc : Cl s) (hl : LiveD a z B cs s.last X) (hm : May a z s.last.length cs) (hq0 : 0 ≤ q) (hq1 : q ≤ B) (hB : B < 200) (hq : s.last.getD a [] = pageH (liveH q cs)) (ha : a ≤ 900) (hz : z ≤ 900) (hroom : RoomIs z r) (hr : 1 ≤ r) (hr9 : r ≤ 900) (hcr : cs.length ≤ r) :
    Calls Try.prog 7 #[.pointer (some ⟨d, 0, none⟩), .int .i64 (a : Int), .int .i64 (z : Int)] w (Opened w d l m a z (Jn.runs s [cs, [⟨(a : Int), pageH (quietH (q + 1))⟩]]) (fun _ _ => True)) := by
  have hreg := hm.reg
  have hfit := hm.fit
  have e := read_clean hc (show a < s.last.length by omega)
  refine open_with h ha hz hroom hr hc.up hreg _ _ (fun W j hj hd hjd => ?_)
  have := begin_live hj hd hjd ha hz hroom hr9 hc.up hm hcr hq0 (by omega) (e.trans hq) (rdN_clean hc (by omega) (Jn.layN_length cs) hl.laid)
  exact this.mono fun e w' ⟨cnt, q', h1, h2, h3, h4⟩ => ⟨cnt, q', h1, h2, h3, trivial, h4⟩

/-- what a crash may leave: the changes aren't there, or they are, or they count still -/
def Good (ok : Bool) (a z : Nat) (B : Int) (cs : List Chg) (X L : List (List UInt8)) : Prop :=
  (ok = false ∧ Quiet a z B L X) ∨ Quiet a z B L (upd X cs) ∨ (May a z L.length cs ∧ LiveD a z B cs L (upd X cs))
def Fine (ok : Bool) (a z : Nat) (cs : List Chg) (X L : List (List UInt8)) : Prop := (ok = false ∧ Same a z L X) ∨ Same a z L (upd X cs)
theorem good_open {ok : Bool} {w : World} {d l m a z r : Nat} {s : Dk.St} {B : Int} {cs : List Chg} {X : List (List UInt8)} (h : DiskAt w d l m s) (hc : Cl s) (hg : Good ok a z B cs X s.last) (h0 : 0 ≤ B) (hB : B < 200) (ha : a ≤ 900) (hz : z ≤ 900) (hz0 : 0 < z) (hroom : RoomIs z r) (hr : 1 ≤ r) (hr9 : r ≤ 900) (hcr : cs.length ≤ r) (hreg : a + z ≤ s.last.length) :
    ∃ (R : Dk.St × Int) (P : Int → Int → Prop), Calls Try.prog 7 #[.pointer (some ⟨d, 0, none⟩), .int .i64 (a : Int), .int .i64 (z : Int)] w (Opened w d l m a z R P) ∧ R.1.last.length = s.last.length ∧
      ((R.2 = 0 ∧ Cl R.1 ∧ Fine ok a z cs X R.1.last) ∨ (R.2 = 5 ∧ s.lim = true ∧ R.1.Ok ∧ ∀ keep, Good ok a z (B + 1) cs X (Dk.crash R.1 keep).last)) := by
  rcases hg with ⟨hok, hq⟩ | hq | ⟨hm, hl⟩
  · refine ⟨_, _, openQ_any h hc hq h0 hB ha hz hz0 hroom hr hreg, ?_, ?_⟩
    · rcases Jn.openQ hc hq (by omega) hz0 h0 hB with ⟨_, _, _, e, _⟩ | ⟨_, _, _, e⟩
      · rw [e, List.length_set]
      · have := (e []).len
        rw [Dk.crash_len] at this
        rw [this, ← hq.len]
    · rcases Jn.openQ hc hq (by omega) hz0 h0 hB with ⟨e1, e2, e3, _⟩ | ⟨e1, e2, e3, e4⟩
      · exact Or.inl ⟨e1, e2, Or.inl ⟨hok, e3⟩⟩
      · exact Or.inr ⟨e1, e2, e3, fun keep => Or.inl ⟨hok, e4 keep⟩⟩
  · refine ⟨_, _, openQ_any h hc hq h0 hB ha hz hz0 hroom hr hreg, ?_, ?_⟩
    · rcases Jn.openQ hc hq (by omega) hz0 h0 hB with ⟨_, _, _, e, _⟩ | ⟨_, _, _, e⟩
      · rw [e, List.length_set]
      · have := (e []).len
        rw [Dk.crash_len] at this
        rw [this, ← hq.len]
    · rcases Jn.openQ hc hq (by omega) hz0 h0 hB with ⟨e1, e2, e3, _⟩ | ⟨e1, e2, e3, e4⟩
      · exact Or.inl ⟨e1, e2, Or.inr e3⟩
      · exact Or.inr ⟨e1, e2, e3, fun keep => Or.inr (Or.inl (e4 keep))⟩
  · obtain ⟨q, q0, q1, hq⟩ := hl.head
    refine ⟨_, _, openL_any h hc hl hm q0 q1 hB hq ha hz hroom hr hr9 hcr, ?_, ?_⟩
    · rcases Jn.runs_spec [cs, [⟨(a : Int), pageH (quietH (q + 1))⟩]] s hc (fun l hl' => by
          rcases List.mem_cons.1 hl' with rfl | hl'
          · exact hm.val
          · rw [List.mem_singleton] at hl'; subst hl'; exact Jn.val_one (by omega) _) with ⟨_, _, _, e⟩ | ⟨_, _, _, j, _, e⟩
      · rw [e, Jn.updAll_length]
      · have := (e []).len
        rw [Dk.crash_len, Jn.updAll_length] at this
        exact this
    · rcases Jn.openL hc hl hm q0 q1 hq hB with ⟨e1, e2, e3⟩ | ⟨e1, e2, e3, e4⟩
      · exact Or.inl ⟨e1, e2, Or.inr e3⟩
      · refine Or.inr ⟨e1, e2, e3, fun keep => ?_⟩
        rcases e4 keep with g | g
        · exact Or.inr (Or.inl g)
        · refine Or.inr (Or.inr ⟨?_, g⟩)
          have : (Dk.crash (Jn.runs s [cs, [⟨(a : Int), pageH (quietH (q + 1))⟩]]).1 keep).last.length = s.last.length := by rw [g.len, ← hl.len]
          rw [this]; exact hm

/-! ### a new disk -/
theorem fresh_cl {n : Nat} (h1 : 1 ≤ n) (h2 : n ≤ 512) : Cl (Dk.fresh n) := ⟨Dk.fresh_ok h1 h2, rfl, by unfold Dk.fresh; simp⟩
theorem fresh_len (n : Nat) : (Dk.fresh n).last.length = n := by unfold Dk.fresh; simp
theorem fresh_at {n i : Nat} (h : i < n) : (Dk.fresh n).last.getD i [] = zeros := by
  unfold Dk.fresh
  simp only
  rw [List.getD_eq_getElem?_getD, List.getElem?_replicate, if_pos h]; rfl
theorem zeros_front : Pg.getN zeros 0 4 = 0 := by decide
theorem zeros_back : Pg.getN zeros 60 4 = 0 := by decide
theorem zeros_next : Hd.nextN [zeros] = 1 := by decide
theorem zeros_quiet : Jn.QuietP zeros := by
  rintro ⟨_, h⟩
  have : (Hd.readH zeros).live = false := by decide
  rw [this] at h
  cases h
theorem fresh_quiet {n a z : Nat} (h : a < n) : Quiet a z 0 (Dk.fresh n).last (Dk.fresh n).last where
  len := rfl
  low := by rw [fresh_at h]; exact ⟨zeros_length, by rw [zeros_front]; exact Int.le_refl _, by rw [zeros_back]; exact Int.le_refl _⟩
  quiet := by rw [fresh_at h]; exact zeros_quiet
  same := fun _ _ => rfl
/-- the first Open -/
theorem first_open {w : World} {d l m n a z r : Nat} (h : DiskAt w d l m (Dk.fresh n)) (h1 : 1 ≤ n) (h2 : n ≤ 512) (hz0 : 0 < z) (hroom : RoomIs z r) (hr : 1 ≤ r) (hreg : a + z ≤ n) :
    ∃ s, Cl s ∧ s.lim = false ∧ s.last.length = n ∧ s.last.getD a [] = pageH (quietH 1) ∧ Calls Try.prog 7 #[.pointer (some ⟨d, 0, none⟩), .int .i64 (a : Int), .int .i64 (z : Int)] w fun e w' =>
      ∃ j, e = .returned (.tuple #[.pointer (some ⟨j, 0, none⟩), .int .i64 0, .int .i64 0]) ∧ DiskAt w' d l m s ∧ JAt w' j d a z 1 false ∧ w.heap.size ≤ j ∧ Only [d, l, m] w w' := by
  have hc := fresh_cl h1 h2
  have hq : Quiet a z 0 (Dk.fresh n).last (Dk.fresh n).last := fresh_quiet (by omega)
  have hl := fresh_len n
  have ho := openQ_any h hc hq (Int.le_refl 0) (by omega) (by omega) (by omega) hz0 hroom hr (by omega)
  have hn : Hd.nextN [(Dk.fresh n).last.getD a []] = 1 := by rw [fresh_at (by omega)]; exact zeros_next
  rcases Jn.openQ hc hq (by omega) hz0 (Int.le_refl 0) (by omega) with ⟨e1, e2, e3, e4, e5⟩ | ⟨_, e, _⟩
  · rw [hn] at ho e1 e2 e4 e5
    refine ⟨_, e2, e5, by rw [e4, List.length_set, hl], ?_, ho.mono ?_⟩
    · rw [e4, List.getD_eq_getElem?_getD, List.getElem?_set_self (by omega)]; rfl
    · rintro e w' ⟨k1, k2, k3⟩
      rcases k3 with ⟨_, j, cnt, q, k4, k5, ⟨rfl, rfl⟩, k6⟩ | ⟨k4, _⟩
      · exact ⟨j, k4, k1, k5, k6, k2⟩
      · exact absurd e1 k4
  · cases e
end Go.Proofs.Ytlamllnflbdcjaa
