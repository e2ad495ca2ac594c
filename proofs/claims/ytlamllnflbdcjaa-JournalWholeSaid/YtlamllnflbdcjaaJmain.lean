/-
  JournalWhole: both Commits, the Opens behind them, what the pages are in the end.
-/
import Derived.Test.YtlamllnflbdcjaaJawake
namespace Go.Proofs.Ytlamllnflbdcjaa
open Go.RowKit
open Dk (zeros zeros_length)
open Hd (Head rightB pageH)
open Jn (Chg quietH liveH Cl Quiet LiveD May Same upd)

theorem SlAt.arg {α : Type} {w W : World} {A : Option Addr} {L : List Nat} {k : Nat} {f : α → List Value} {xs : List α} (h : SlAt w A [] k f xs) (hb : Below w.heap.size w W) (hL : ∀ x ∈ L, w.heap.size ≤ x) : SlAt W A L k f xs :=
  (h.newer (L' := L) (fun x hx => Or.inr (hL x hx))).below hb
/-- what is changed, as the statement has it -/
def updIn (L : List (List UInt8)) (cs : List Chg) : List (List UInt8) := cs.foldl (fun L c => if 0 ≤ c.no ∧ c.no < 60 then L.set c.no.toNat c.page else L) L
theorem updIn_length (cs : List Chg) : ∀ L, (updIn L cs).length = L.length := by
  induction cs with
  | nil => intro L; rfl
  | cons c r ih =>
    intro L
    show (updIn (if 0 ≤ c.no ∧ c.no < 60 then L.set c.no.toNat c.page else L) r).length = _
    rw [ih]
    split
    · rw [List.length_set]
    · rfl
theorem updIn_pages (cs : List Chg) (hp : ∀ c ∈ cs, c.page.length = 64) : ∀ L : List (List UInt8), (∀ p ∈ L, p.length = 64) → ∀ p ∈ updIn L cs, p.length = 64 := by
  induction cs with
  | nil => intro L h; exact h
  | cons c r ih =>
    intro L h
    refine ih (fun x hx => hp x (by simp [hx])) _ (fun p hq => ?_)
    have hq' : p ∈ (if 0 ≤ c.no ∧ c.no < 60 then L.set c.no.toNat c.page else L) := hq
    split at hq'
    · rcases List.mem_or_eq_of_mem_set hq' with e | e
      · exact h p e
      · rw [e]; exact hp c (by simp)
    · exact h p hq'
theorem updIn_upd (cs : List Chg) (h : ∀ c ∈ cs, 0 ≤ c.no ∧ c.no < 60) : ∀ L, updIn L cs = upd L cs := by
  induction cs with
  | nil => intro L; rfl
  | cons c r ih =>
    intro L
    show updIn (if 0 ≤ c.no ∧ c.no < 60 then L.set c.no.toNat c.page else L) r = upd (L.set c.no.toNat c.page) r
    rw [if_pos (h c (by simp)), ih (fun x hx => h x (by simp [hx]))]
theorem updIn_snoc (L : List (List UInt8)) (cs : List Chg) (c : Chg) : updIn L (cs ++ [c]) = if 0 ≤ c.no ∧ c.no < 60 then (updIn L cs).set c.no.toNat c.page else updIn L cs := by
  unfold updIn; rw [List.foldl_append]; rfl
theorem pgs_at (s : Dk.St) (i : Nat) (hi : i < 60) : (pgs s).getD i [] = pgF s i := by
  unfold pgs
  rw [List.getD_eq_getElem?_getD, List.getElem?_map, List.getElem?_range hi]; rfl
theorem pgF_clean {s : Dk.St} (h : Cl s) (hl : s.last.length = 60) {i : Nat} (hi : i < 60) (ho : i < 2 ∨ 22 ≤ i) : pgF s i = s.last.getD i [] := by
  unfold pgF
  rw [if_pos ho, read_clean h (by omega)]
theorem pgs_same {s t : Dk.St} (hs : Cl s) (ht : Cl t) (hls : s.last.length = 60) (hlt : t.last.length = 60) (h : Same 2 20 s.last t.last) : pgs s = pgs t := by
  refine Jn.getD_ext [] (by rw [pgs_length, pgs_length]) (fun i hi => ?_)
  rw [pgs_length] at hi
  rw [pgs_at _ _ hi, pgs_at _ _ hi]
  by_cases ho : i < 2 ∨ 22 ≤ i
  · rw [pgF_clean hs hls hi ho, pgF_clean ht hlt hi ho, h i (by omega)]
  · unfold pgF; rw [if_neg ho, if_neg ho]
theorem pgs_upd {s t : Dk.St} {cs : List Chg} (hs : Cl s) (ht : Cl t) (hls : s.last.length = 60) (hlt : t.last.length = 60) (hm : ∀ c ∈ cs, (c.no.toNat < 2 ∨ 22 ≤ c.no.toNat)) (h : Same 2 20 t.last (upd s.last cs)) : pgs t = upd (pgs s) cs := by
  refine Jn.getD_ext [] (by rw [Jn.upd_length, pgs_length, pgs_length]) (fun i hi => ?_)
  rw [pgs_length] at hi
  rw [pgs_at _ _ hi]
  by_cases hc : ∃ c ∈ cs, c.no.toNat = i
  · have ho : i < 2 ∨ 22 ≤ i := by obtain ⟨c, h1, h2⟩ := hc; have := hm c h1; omega
    rw [pgF_clean ht hlt hi ho, h i (by omega)]
    exact Jn.upd_in cs _ _ i (by rw [pgs_length]; exact hls) hc
  · have hc' : ∀ c ∈ cs, c.no.toNat ≠ i := fun x hx e => hc ⟨x, hx, e⟩
    rw [Jn.upd_other _ _ _ hc', pgs_at _ _ hi]
    by_cases ho : i < 2 ∨ 22 ≤ i
    · rw [pgF_clean ht hlt hi ho, pgF_clean hs hls hi ho, h i (by omega), Jn.upd_other _ _ _ hc']
    · unfold pgF; rw [if_neg ho, if_neg ho]
theorem pgs_fuse (s : Dk.St) (k : Int) : pgs (Dk.fuse s k) = pgs s := rfl

/-- the first Commit -/
theorem commit_first {w : World} {j d l m : Nat} {s : Dk.St} {cs : List Chg} (hj : JAt w j d 2 20 1 false) (h : DiskAt w d l m s) (hjd : j ∉ [d, l, m]) (hc : Cl s) (hlen : s.last.length = 60) (hhead : s.last.getD 2 [] = pageH (quietH 1)) (A : Option Addr) (c : Nat) (hrow : ChAt w A [d, l, m, j] cs) (hp : ∀ x ∈ cs, x.page.length = 64) (hl : cs.length ≤ 60) :
    Calls Try.prog 8 #[.pointer (some ⟨j, 0, none⟩), .slice A cs.length c] w fun e w' => ∃ E, e = .returned (.int .i64 E) ∧ Only [d, l, m, j] w w' ∧ (E = 0 → ∃ s1 q1, DiskAt w' d l m s1 ∧ Cl s1 ∧ s1.last.length = 60 ∧ s1.last.getD 2 [] = pageH (quietH q1) ∧ 0 ≤ q1 ∧ q1 ≤ 3 ∧ JAt w' j d 2 20 q1 false) := by
  have ho := outer_any hj h hjd (by omega) (by omega) room20 (by omega) (by omega) (by omega) A c hrow hp (by omega) (by omega) (by omega)
  refine ho.mono ?_
  rintro e w' hC
  rcases hC with ⟨_, he, hb⟩ | ⟨_, he, hb⟩ | ⟨_, he, hb⟩ | ⟨hm, he, hd, ⟨q', hj', hq'⟩, hO⟩
  · exact ⟨22, he, Only.below hb, fun h => by omega⟩
  · exact ⟨28, he, Only.below hb, fun h => by omega⟩
  · exact ⟨0, he, Only.below hb, fun _ => ⟨s, 1, h.below hb, hc, hlen, hhead, by omega, by omega, hj.below hb⟩⟩
  · refine ⟨_, he, hO, fun hE => ?_⟩
    rcases Jn.commitM hc hm (by omega) (by omega) hhead with ⟨e1, e2, e3, e4, _⟩ | ⟨e1, _⟩
    · refine ⟨_, 3, hd, e2, by rw [e3.len, Jn.upd_length, hlen], e4, by omega, by omega, ?_⟩
      have hq3 := hq' hE
      rw [hE] at hj'
      rw [hq3] at hj'
      exact hj'
    · rw [hE] at e1; omega
/-- the second -/
theorem commit_second {w : World} {j d l m : Nat} {s : Dk.St} {cs : List Chg} {q : Int} (hj : JAt w j d 2 20 q false) (h : DiskAt w d l m s) (hjd : j ∉ [d, l, m]) (hc : Cl s) (hlen : s.last.length = 60) (hhead : s.last.getD 2 [] = pageH (quietH q)) (hq0 : 0 ≤ q) (hq1 : q ≤ 3) (A : Option Addr) (c : Nat) (hrow : ChAt w A [d, l, m, j] cs) (hp : ∀ x ∈ cs, x.page.length = 64) (hl : cs.length ≤ 60) :
    Calls Try.prog 8 #[.pointer (some ⟨j, 0, none⟩), .slice A cs.length c] w fun e w' => ∃ E s3, e = .returned (.int .i64 E) ∧ Only [d, l, m, j] w w' ∧ DiskAt w' d l m s3 ∧ s3.last.length = 60 ∧
      (((E = 22 ∨ E = 28) ∧ s3 = s) ∨ ((E = 0 ∨ E = 5) ∧ (∀ c ∈ cs, (0 ≤ c.no ∧ c.no < 60) ∧ (c.no.toNat < 2 ∨ 22 ≤ c.no.toNat)) ∧ cs.length ≤ 18 ∧ ∀ keep, Good (E == 0) 2 20 5 cs s.last (Dk.crash s3 keep).last)) := by
  have ho := outer_any hj h hjd (by omega) (by omega) room20 (by omega) (by omega) (by omega) A c hrow hp (by omega) hq0 (by omega)
  refine ho.mono ?_
  rintro e w' hC
  have qmono : ∀ {B : Int} {L X : List (List UInt8)}, Quiet 2 20 B L X → B ≤ 5 → Quiet 2 20 5 L X := fun h hB => ⟨h.len, h.low.mono hB, h.quiet, h.same⟩
  have lmono : ∀ {B : Int} {L X : List (List UInt8)}, LiveD 2 20 B cs L X → B ≤ 5 → LiveD 2 20 5 cs L X := fun h hB => by
    obtain ⟨x, x0, x1, hx⟩ := h.head
    exact ⟨h.len, ⟨x, x0, by omega, hx⟩, h.laid, h.same⟩
  rcases hC with ⟨_, he, hb⟩ | ⟨_, he, hb⟩ | ⟨hn, he, hb⟩ | ⟨hm, he, hd, _, hO⟩
  · exact ⟨22, s, he, Only.below hb, h.below hb, hlen, Or.inl ⟨Or.inl rfl, rfl⟩⟩
  · exact ⟨28, s, he, Only.below hb, h.below hb, hlen, Or.inl ⟨Or.inr rfl, rfl⟩⟩
  · subst hn
    refine ⟨0, s, he, Only.below hb, h.below hb, hlen, Or.inr ⟨Or.inl rfl, fun c hc => absurd hc (by simp), by simp, fun keep => Or.inr (Or.inl ?_)⟩⟩
    rw [Jn.crash_clean hc]
    exact ⟨rfl, by rw [hhead]; exact Jn.page_low hq0 (by show q < _; omega) (by show q ≤ 5; omega), by rw [hhead]; exact Jn.quietH_quiet hq0 (by omega), fun _ _ => rfl⟩
  · have hall : ∀ c ∈ cs, (0 ≤ c.no ∧ c.no < 60) ∧ (c.no.toNat < 2 ∨ 22 ≤ c.no.toNat) := fun c hx => by
      have h1 := Dk.has_yes (hm.val c hx).1
      have h2 := hm.out c hx
      rw [hlen] at h1
      exact ⟨⟨h1.1, by omega⟩, by omega⟩
    have hfit := hm.fit
    rcases Jn.commitM hc hm hq0 (by omega) hhead with ⟨e1, e2, e3, e4, _⟩ | ⟨e1, _, e3, e4⟩
    · rw [e1] at he
      refine ⟨0, _, he, hO, hd, by rw [e3.len, Jn.upd_length, hlen], Or.inr ⟨Or.inl rfl, hall, by omega, fun keep => Or.inr (Or.inl ?_)⟩⟩
      rw [Jn.crash_clean e2]
      exact qmono e3 (by omega)
    · rw [e1] at he
      have hl3 : (Jn.runs s (Jn.steps 2 q cs)).1.last.length = 60 := by
        rw [← Dk.crash_len (Jn.runs s (Jn.steps 2 q cs)).1 []]
        rcases e4 [] with g | g | g
        · rw [g.len, hlen]
        · rw [g.len, Jn.upd_length, hlen]
        · rw [g.len, Jn.upd_length, hlen]
      refine ⟨5, _, he, hO, hd, hl3, Or.inr ⟨Or.inr rfl, hall, by omega, fun keep => ?_⟩⟩
      rcases e4 keep with g | g | g
      · exact Or.inl ⟨rfl, qmono g (by omega)⟩
      · exact Or.inr (Or.inl (qmono g (by omega)))
      · refine Or.inr (Or.inr ⟨?_, lmono g (by omega)⟩)
        rw [g.len, Jn.upd_length]; exact hm
/-- an Open behind a crash -/
theorem open_again {ok : Bool} {w : World} {d l m : Nat} {s : Dk.St} {B : Int} {cs : List Chg} {X : List (List UInt8)} (h : DiskAt w d l m s) (hc : Cl s) (hlen : s.last.length = 60) (hg : Good ok 2 20 B cs X s.last) (h0 : 0 ≤ B) (hB : B < 200) (hcr : cs.length ≤ 18) :
    Calls Try.prog 7 #[.pointer (some ⟨d, 0, none⟩), .int .i64 2, .int .i64 20] w fun e w' => ∃ (R : Dk.St) (v : Value) (cnt E : Int), e = .returned (.tuple #[v, .int .i64 cnt, .int .i64 E]) ∧ DiskAt w' d l m R ∧ Only [d, l, m] w w' ∧ R.last.length = 60 ∧
      ((E = 0 ∧ Cl R ∧ Fine ok 2 20 cs X R.last) ∨ (E = 5 ∧ s.lim = true ∧ ∀ keep, Good ok 2 20 (B + 1) cs X (Dk.crash R keep).last)) := by
  obtain ⟨R, P, hcall, hl, hR⟩ := good_open h hc hg h0 hB (by omega) (by omega) (by omega) room20 (by omega) (by omega) hcr (by omega)
  refine hcall.mono ?_
  rintro e w' ⟨k1, k2, k3⟩
  rcases k3 with ⟨k4, j, cnt, q, k5, _⟩ | ⟨k4, k5⟩
  · rcases hR with ⟨r1, r2, r3⟩ | ⟨r1, _⟩
    · exact ⟨R.1, _, cnt, 0, k5, k1, k2, by omega, Or.inl ⟨rfl, r2, r3⟩⟩
    · omega
  · rcases hR with ⟨r1, _⟩ | ⟨r1, r2, r3, r4⟩
    · exact absurd r1 k4
    · rw [r1] at k5
      exact ⟨R.1, _, 0, 5, k5, k1, k2, by omega, Or.inr ⟨rfl, r2, r4⟩⟩
end Go.Proofs.Ytlamllnflbdcjaa
