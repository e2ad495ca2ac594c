/- Texts of the proof. -/
import Derived.Test.YtmpfcgjjejlhdaaGreatBac
import Derived.Test.YtmpfcgjjejlhdaaGreatBab
import Derived.Laws.IdiomStrings
import Derived.IntWalk
import Derived.Laws.Tables
import Derived.Great.FillDense
import Derived.Great.BuildSlice
set_option maxRecDepth 100000
set_option maxHeartbeats 16000000
namespace Go.Proofs.YtmpfcgjjejlhdaaGreat
namespace Jn
open Go.Proofs.YtmpfcgjjejlhdaaGreat.Pg (getN setN numOf bytesN)
open Go.Proofs.YtmpfcgjjejlhdaaGreat.Hd (Head pageH readH wholeB rightB nextN)
theorem four (a : List UInt8) (h : a.length = 4) : ∃ x0 x1 x2 x3, a = [x0, x1, x2, x3] := by
  match a, h with
  | [x0, x1, x2, x3], _ => exact ⟨_, _, _, _, rfl⟩
theorem zero8 {x : UInt8} (h : x.toNat = 0) : x = 0 := UInt8.toNat_inj.1 h
theorem small_lead (a : List UInt8) (hl : a.length = 4) (h : numOf a < 256) : ∃ x, a = [0, 0, 0, x] := by
  obtain ⟨x0, x1, x2, x3, rfl⟩ := four a hl
  have e : numOf [x0, x1, x2, x3] = (((0 * 256 + (x0.toNat : Int)) * 256 + (x1.toNat : Int)) * 256 + (x2.toNat : Int)) * 256 + (x3.toNat : Int) := rfl
  rw [e] at h
  have e0 : x0 = 0 := zero8 (by omega)
  have e1 : x1 = 0 := zero8 (by omega)
  have e2 : x2 = 0 := zero8 (by omega)
  exact ⟨x3, by rw [e0, e1, e2]⟩
theorem get_front (p : List UInt8) : getN p 0 4 = numOf (p.take 4) := by
  unfold getN; rw [if_pos (by decide)]; rfl
theorem get_back (p : List UInt8) (hp : p.length = 64) : getN p 60 4 = numOf (p.drop 60) := by
  unfold getN; rw [if_pos (by decide)]
  show numOf ((p.drop 60).take 4) = _
  rw [List.take_of_length_le (by simp; omega)]
theorem num4 (x : Int) (h0 : 0 ≤ x) (h1 : x < 4294967296) : numOf (bytesN 4 x) = x := by
  rw [Pg.numOf_bytesN]
  have e : (256 : Int) ^ 4 = 4294967296 := rfl
  rw [e]; omega
theorem page_front (h : Head) (h0 : 0 ≤ h.seq) (h1 : h.seq < 4294967296) : getN (pageH h) 0 4 = h.seq := by
  rw [get_front, Hd.page_ends.1, num4 _ h0 h1]
theorem page_back (h : Head) (h0 : 0 ≤ h.seq) (h1 : h.seq < 4294967296) : getN (pageH h) 60 4 = h.seq := by
  rw [get_back _ (Hd.pageH_length h), Hd.page_ends.2, num4 _ h0 h1]
theorem take_lead (x y : UInt8) (k : Nat) (hk : k ≤ 3) : [0, 0, 0, x].take k = ([0, 0, 0, y] : List UInt8).take k := by
  have : k = 0 ∨ k = 1 ∨ k = 2 ∨ k = 3 := by omega
  rcases this with rfl | rfl | rfl | rfl <;> rfl
theorem torn_head (P : List UInt8) (h : Head) (hP : P.length = 64) (hf : getN P 0 4 < 256) (hb : getN P 60 4 < 256) (h0 : 0 ≤ h.seq) (h1 : h.seq < 256) (c : UInt8) :
    Dk.torn P (pageH h) c = P ∨ Dk.torn P (pageH h) c = pageH h ∨ (getN (Dk.torn P (pageH h) c) 0 4 = h.seq ∧ getN (Dk.torn P (pageH h) c) 60 4 = getN P 60 4) := by
  have hN := Hd.pageH_length h
  have hT := Dk.torn_len c hP hN
  obtain ⟨n1, n2⟩ := Hd.page_ends (h := h)
  obtain ⟨x, hx⟩ := small_lead (bytesN 4 h.seq) (Pg.bytesN_length 4 _) (by rw [num4 _ h0 (by omega)]; exact h1)
  rw [get_front] at hf
  rw [get_back _ hP] at hb
  obtain ⟨y, hy⟩ := small_lead (P.take 4) (by simp; omega) hf
  obtain ⟨z, hz⟩ := small_lead (P.drop 60) (by simp; omega) hb
  have hk : c.toNat % 65 < 65 := Nat.mod_lt _ (by omega)
  rw [get_front (Dk.torn P (pageH h) c), get_back _ hT, get_back _ hP]
  unfold Dk.torn
  generalize hNN : pageH h = N at *
  generalize c.toNat % 65 = k at *
  by_cases k3 : k ≤ 3
  · left
    have e : N.take k = P.take k := by
      have e1 : N.take k = (N.take 4).take k := by rw [List.take_take]; congr 1; omega
      have e2 : P.take k = (P.take 4).take k := by rw [List.take_take]; congr 1; omega
      rw [e1, e2, n1, hx, hy]; exact take_lead x y k k3
    rw [e, List.take_append_drop]
  · by_cases k64 : k = 64
    · right; left
      rw [k64, List.take_of_length_le (by omega), List.drop_of_length_le (by omega), List.append_nil]
    · right; right
      constructor
      · rw [List.take_append_of_le_length (by simp; omega), List.take_take, show min 4 k = 4 by omega, n1, num4 _ h0 (by omega)]
      · congr 1
        rw [List.drop_append, List.drop_take, n2, hx]
        by_cases k60 : k ≤ 60
        · rw [show k - 60 = 0 by omega, List.take_zero, List.nil_append, List.drop_drop]
          congr 1
          simp
          omega
        · rw [List.drop_drop, show k + (60 - (N.take k).length) = 60 + (k - 60) by simp; omega, ← List.drop_drop, hz, take_lead x z (k - 60) (by omega), List.take_append_drop]
def QuietP (p : List UInt8) : Prop := ¬ (wholeB p = true ∧ (readH p).live = true)
structure Low (B : Int) (p : List UInt8) : Prop where
  len : p.length = 64
  f : getN p 0 4 ≤ B
  b : getN p 60 4 ≤ B
def quietH (m : Int) : Head := ⟨m, false, 0, 0⟩
theorem quietH_right {m : Int} (h0 : 0 ≤ m) (h1 : m < 4294967296) : rightB (quietH m) = true := decide_eq_true ⟨h0, h1, (fun h => by cases h), (fun _ => ⟨rfl, rfl⟩)⟩
theorem quietH_quiet {m : Int} (h0 : 0 ≤ m) (h1 : m < 4294967296) : QuietP (pageH (quietH m)) := by
  rintro ⟨_, h⟩
  rw [Hd.read_page _ (quietH_right h0 h1) (Int.le_refl 0) (show (0 : Int) < 4294967296 by omega)] at h
  cases h
theorem mixed_quiet {p : List UInt8} (hp : p.length = 64) (h : getN p 0 4 ≠ getN p 60 4) : QuietP p := by
  rintro ⟨hw, _⟩
  exact h ((Hd.whole_iff p hp).1 hw).1
theorem page_low {h : Head} {B : Int} (h0 : 0 ≤ h.seq) (h1 : h.seq < 4294967296) (hB : h.seq ≤ B) : Low B (pageH h) :=
  ⟨Hd.pageH_length h, by rw [page_front h h0 h1]; exact hB, by rw [page_back h h0 h1]; exact hB⟩
theorem Low.mono {B B' : Int} {p : List UInt8} (h : Low B p) (hB : B ≤ B') : Low B' p := ⟨h.len, by have := h.f; omega, by have := h.b; omega⟩
theorem torn_cases {B B' : Int} {P : List UInt8} {h : Head} (hP : Low B P) (hB : B ≤ B') (hB' : B' < 256) (h0 : 0 ≤ h.seq) (h1 : h.seq ≤ B') (hlt : getN P 60 4 < h.seq) (c : UInt8) :
    Low B' (Dk.torn P (pageH h) c) ∧ (Dk.torn P (pageH h) c = P ∨ Dk.torn P (pageH h) c = pageH h ∨ QuietP (Dk.torn P (pageH h) c)) := by
  have hT := Dk.torn_len c hP.len (Hd.pageH_length h)
  have hf := hP.f
  have hb := hP.b
  rcases torn_head P h hP.len (by omega) (by omega) h0 (by omega) c with e | e | ⟨e1, e2⟩
  · exact ⟨by rw [e]; exact hP.mono hB, Or.inl e⟩
  · exact ⟨by rw [e]; exact page_low h0 (by omega) h1, Or.inr (Or.inl e)⟩
  · exact ⟨⟨hT, by rw [e1]; exact h1, by rw [e2]; omega⟩, Or.inr (Or.inr (mixed_quiet hT (by rw [e1, e2]; omega)))⟩
def none' : Chg := ⟨0, []⟩
def nl (n : Nat) : Nat := (n + 31) / 32
def lp (cs : List Chg) (j : Nat) : Nat → List UInt8
  | 0 => Dk.zeros
  | k + 1 => if k / 32 = j then setN (lp cs j k) (((k % 32 : Nat) : Int) * 2) 2 (cs.getD k none').no else lp cs j k
def layN (cs : List Chg) : List (List UInt8) := ((List.range (nl cs.length)).map fun j => lp cs j cs.length) ++ cs.map (·.page)
def sumN (ps : List (List UInt8)) : Int := Mt.joinN (Mt.run (0, 0) ps.flatten)
theorem sumN_bd (ps : List (List UInt8)) : 0 ≤ sumN ps ∧ sumN ps < 4294967296 := Mt.join_bd _ (Mt.fit_run _ _ Mt.fit_zero)
theorem lp_length (cs : List Chg) (j : Nat) : ∀ k, (lp cs j k).length = 64
  | 0 => Dk.zeros_length
  | k + 1 => by
    rw [lp]
    split
    · exact Pg.setN_length _ _ _ _ (lp_length cs j k)
    · exact lp_length cs j k
theorem get_at (p : List UInt8) (a : Nat) (ha : a + 2 ≤ 64) : getN p (a : Int) 2 = numOf ((p.drop a).take 2) := by
  unfold getN; rw [if_pos (Pg.num_mk (by omega) (by omega) (by omega) (by omega)), Int.toNat_natCast]; rfl
theorem layN_length (cs : List Chg) : (layN cs).length = nl cs.length + cs.length := by unfold layN; simp
theorem nl_lt {i n : Nat} (h : i < n) : i / 32 < nl n := by unfold nl; omega
theorem layN_pages {cs : List Chg} (h : ∀ c ∈ cs, c.page.length = 64) : ∀ p ∈ layN cs, p.length = 64 := by
  intro p hp
  unfold layN at hp
  rcases List.mem_append.1 hp with hp | hp
  · obtain ⟨j, _, rfl⟩ := List.mem_map.1 hp
    exact lp_length _ _ _
  · obtain ⟨c, hc, rfl⟩ := List.mem_map.1 hp
    exact h c hc
def layAt : Nat → List (List UInt8) → List Chg
  | _, [] => []
  | a, p :: r => ⟨(a : Int), p⟩ :: layAt (a + 1) r
theorem layAt_mem : ∀ (ps : List (List UInt8)) (a : Nat) (c : Chg), c ∈ layAt a ps → a ≤ c.no.toNat ∧ c.no.toNat < a + ps.length ∧ c.no = (c.no.toNat : Int) ∧ c.page ∈ ps
  | [], _, c, h => by cases h
  | p :: r, a, c, h => by
    rcases List.mem_cons.1 h with rfl | h
    · simp
    · obtain ⟨h1, h2, h3, h4⟩ := layAt_mem r (a + 1) c h
      exact ⟨by omega, by simp only [List.length_cons]; omega, h3, List.mem_cons_of_mem _ h4⟩
theorem layAt_val {n a : Nat} {ps : List (List UInt8)} (h : ∀ p ∈ ps, p.length = 64) (hn : a + ps.length ≤ n) : Val n (layAt a ps) := by
  intro c hc
  obtain ⟨h1, h2, h3, h4⟩ := layAt_mem _ _ _ hc
  exact ⟨by rw [h3]; exact Dk.has_mk (by omega), h _ h4⟩
theorem upd_other (cs : List Chg) : ∀ (L : List (List UInt8)) (i : Nat), (∀ c ∈ cs, c.no.toNat ≠ i) → (upd L cs).getD i [] = L.getD i [] := by
  induction cs with
  | nil => intro L i _; rfl
  | cons c r ih =>
    intro L i h
    show (upd (L.set _ _) r).getD i [] = _
    rw [ih _ _ (fun x hx => h x (by simp [hx])), List.getD_eq_getElem?_getD, List.getElem?_set_ne (h c (by simp)), ← List.getD_eq_getElem?_getD]
theorem upd_in (cs : List Chg) : ∀ (L M : List (List UInt8)) (i : Nat), L.length = M.length → (∃ c ∈ cs, c.no.toNat = i) → (upd L cs).getD i [] = (upd M cs).getD i [] := by
  induction cs with
  | nil => intro L M i _ h; obtain ⟨c, hc, _⟩ := h; cases hc
  | cons c r ih =>
    intro L M i hl h
    show (upd (L.set _ _) r).getD i [] = (upd (M.set _ _) r).getD i []
    by_cases hr : ∃ c ∈ r, c.no.toNat = i
    · exact ih _ _ i (by simp [hl]) hr
    · have hr' : ∀ c ∈ r, c.no.toNat ≠ i := fun x hx e => hr ⟨x, hx, e⟩
      obtain ⟨x, hx, hxi⟩ := h
      have : x = c := by
        rcases List.mem_cons.1 hx with e | e
        · exact e
        · exact absurd hxi (hr' x e)
      subst this
      rw [upd_other _ _ _ hr', upd_other _ _ _ hr', List.getD_eq_getElem?_getD, List.getD_eq_getElem?_getD, List.getElem?_set, List.getElem?_set, if_pos hxi, if_pos hxi, hl]
theorem upd_layAt : ∀ (ps : List (List UInt8)) (a : Nat) (L : List (List UInt8)) (i : Nat), i < ps.length → a + ps.length ≤ L.length → (upd L (layAt a ps)).getD (a + i) [] = ps.getD i []
  | [], _, _, i, h, _ => by simp at h
  | p :: r, a, L, i, h, hl => by
    show (upd (L.set ((a : Int)).toNat p) (layAt (a + 1) r)).getD (a + i) [] = _
    rw [Int.toNat_natCast]
    simp only [List.length_cons] at h hl
    cases i with
    | zero =>
      rw [upd_other _ _ _ (fun c hc => by have := layAt_mem _ _ _ hc; omega), Nat.add_zero, List.getD_eq_getElem?_getD, List.getElem?_set_self (by omega)]; rfl
    | succ i =>
      have := upd_layAt r (a + 1) (L.set a p) i (by omega) (by simp; omega)
      rw [show a + 1 + i = a + (i + 1) by omega] at this
      rw [this]; rfl
def Same (a z : Nat) (L X : List (List UInt8)) : Prop := ∀ i, (i < a ∨ a + z ≤ i) → L.getD i [] = X.getD i []
def Out (a z : Nat) (cs : List Chg) : Prop := ∀ c ∈ cs, c.no.toNat < a ∨ a + z ≤ c.no.toNat
structure Quiet (a z : Nat) (B : Int) (L X : List (List UInt8)) : Prop where
  len : L.length = X.length
  low : Low B (L.getD a [])
  quiet : QuietP (L.getD a [])
  same : Same a z L X
structure LiveD (a z : Nat) (B : Int) (cs : List Chg) (L X : List (List UInt8)) : Prop where
  len : L.length = X.length
  head : ∃ q, 0 ≤ q ∧ q ≤ B ∧ L.getD a [] = pageH ⟨q, true, cs.length, sumN (layN cs)⟩
  laid : ∀ i, i < nl cs.length + cs.length → L.getD (a + 1 + i) [] = (layN cs).getD i []
  same : ∀ i, (i < a ∨ a + z ≤ i) → (∀ c ∈ cs, c.no.toNat ≠ i) → L.getD i [] = X.getD i []
structure May (a z n : Nat) (cs : List Chg) : Prop where
  val : Val n cs
  out : Out a z cs
  pos : 1 ≤ cs.length
  few : cs.length ≤ 512
  fit : 1 + nl cs.length + cs.length ≤ z
  reg : a + z ≤ n
  top : n ≤ 512
theorem live_right {q : Int} {k : Nat} {S : Int} (h0 : 0 ≤ q) (h1 : q < 4294967296) (k1 : 1 ≤ k) (k2 : k ≤ 512) : rightB ⟨q, true, (k : Int), S⟩ = true :=
  decide_eq_true ⟨h0, h1, fun _ => ⟨by show (1 : Int) ≤ k; omega, by show (k : Int) ≤ 512; omega⟩, fun h => by cases h⟩
theorem quiet_torn {a z : Nat} {B B' : Int} {L X L' : List (List UInt8)} {m : Int} (h : Quiet a z B L X) (hz : 0 < z) (hB : B ≤ B') (hB' : B' < 256) (h0 : 0 ≤ m) (h1 : m ≤ B') (hlt : getN (L.getD a []) 60 4 < m)
    (ht : Trn L [⟨(a : Int), pageH (quietH m)⟩] L') : Quiet a z B' L' X := by
  have hoth : ∀ i, i ≠ a → L'.getD i [] = L.getD i [] := fun i hi => ht.other (fun c hc => by rw [List.mem_singleton] at hc; subst hc; show ((a : Int)).toNat ≠ i; omega)
  have h1' := ht.one
  have e0 : (⟨(a : Int), pageH (quietH m)⟩ : Chg).no.toNat = a := Int.toNat_natCast a
  rw [e0] at h1'
  refine ⟨ht.len.trans h.len, ?_, ?_, fun i hi => by rw [hoth i (by omega)]; exact h.same i hi⟩
  · rcases h1' with e | ⟨b, e⟩
    · rw [e]; exact h.low.mono hB
    · rw [e]; exact (torn_cases (h := quietH m) h.low hB hB' h0 h1 hlt b).1
  · rcases h1' with e | ⟨b, e⟩
    · rw [e]; exact h.quiet
    · rw [e]
      rcases (torn_cases (h := quietH m) h.low hB hB' h0 h1 hlt b).2 with q | q | q
      · rw [q]; exact h.quiet
      · rw [q]; exact quietH_quiet h0 (by omega)
      · exact q
theorem next_one (p : List UInt8) (B : Int) (h : Low B p) (hB : 0 ≤ B) : 0 ≤ nextN [p] ∧ nextN [p] ≤ B + 1 ∧ getN p 60 4 < nextN [p] := by
  refine ⟨Hd.nextN_nonneg _, ?_, ?_⟩
  · refine (Hd.nextN_le _ _).2 ⟨by omega, fun x hx => ?_⟩
    rw [List.mem_singleton] at hx
    subst hx
    have := h.f; have := h.b
    omega
  · exact (((Hd.nextN_le [p] (nextN [p])).1 (Int.le_refl _)).2 p (by simp)).2
theorem val_one {n a : Nat} (h : a < n) (g : Head) : Val n [⟨(a : Int), pageH g⟩] := by
  intro c hc
  rw [List.mem_singleton] at hc
  subst hc
  exact ⟨Dk.has_mk h, Hd.pageH_length g⟩
theorem upd_one_at {L : List (List UInt8)} {a : Nat} (h : a < L.length) (p : List UInt8) : (upd L [⟨(a : Int), p⟩]).getD a [] = p := by
  show (L.set ((a : Int)).toNat p).getD a [] = p
  rw [Int.toNat_natCast, List.getD_eq_getElem?_getD, List.getElem?_set_self h]; rfl
theorem upd_one_other {L : List (List UInt8)} {a i : Nat} (h : i ≠ a) (p : List UInt8) : (upd L [⟨(a : Int), p⟩]).getD i [] = L.getD i [] :=
  upd_other _ _ _ (fun c hc => by rw [List.mem_singleton] at hc; subst hc; show ((a : Int)).toNat ≠ i; omega)
theorem openQ {a z : Nat} {B : Int} {s : Dk.St} {X : List (List UInt8)} (h : Cl s) (hq : Quiet a z B s.last X) (ha : a < s.last.length) (hz : 0 < z) (h0 : 0 ≤ B) (hB : B < 250) :
    ((runs s [[⟨(a : Int), pageH (quietH (nextN [s.last.getD a []]))⟩]]).2 = 0 ∧ Cl (runs s [[⟨(a : Int), pageH (quietH (nextN [s.last.getD a []]))⟩]]).1 ∧ Same a z (runs s [[⟨(a : Int), pageH (quietH (nextN [s.last.getD a []]))⟩]]).1.last X ∧
      (runs s [[⟨(a : Int), pageH (quietH (nextN [s.last.getD a []]))⟩]]).1.last = s.last.set a (pageH (quietH (nextN [s.last.getD a []])))  ∧ (runs s [[⟨(a : Int), pageH (quietH (nextN [s.last.getD a []]))⟩]]).1.lim = s.lim) ∨
    ((runs s [[⟨(a : Int), pageH (quietH (nextN [s.last.getD a []]))⟩]]).2 = 5 ∧ s.lim = true ∧ (runs s [[⟨(a : Int), pageH (quietH (nextN [s.last.getD a []]))⟩]]).1.Ok ∧
      ∀ keep, Quiet a z (B + 1) (Dk.crash (runs s [[⟨(a : Int), pageH (quietH (nextN [s.last.getD a []]))⟩]]).1 keep).last X) := by
  obtain ⟨n0, n1, n2⟩ := next_one _ B hq.low h0
  rcases runs_spec [[⟨(a : Int), pageH (quietH (nextN [s.last.getD a []]))⟩]] s h (fun l hl => by rw [List.mem_singleton] at hl; subst hl; exact val_one ha _) with ⟨a1, a2, a3, a4⟩ | ⟨a1, a2, a3, j, hj, a4⟩
  · left
    refine ⟨a1, a2, ?_, ?_, a3⟩
    · rw [a4]
      intro i hi
      show (upd s.last _).getD i [] = _
      rw [upd_one_other (by omega)]
      exact hq.same i hi
    · rw [a4]
      show s.last.set ((a : Int)).toNat _ = _
      rw [Int.toNat_natCast]
  · right
    refine ⟨a1, a2, a3, fun keep => ?_⟩
    have hj0 : j = 0 := by simpa using hj
    subst hj0
    exact quiet_torn hq hz (by omega) (by omega) n0 n1 n2 (a4 keep)
def liveH (q : Int) (cs : List Chg) : Head := ⟨q, true, cs.length, sumN (layN cs)⟩
def steps (a : Nat) (q : Int) (cs : List Chg) : List (List Chg) := [layAt (a + 1) (layN cs), [⟨(a : Int), pageH (liveH (q + 1) cs)⟩], cs, [⟨(a : Int), pageH (quietH (q + 2))⟩]]
end Jn

section
open Go.RowKit
open Dk (zeros zeros_length)
open Hd (Head rightB pageH)
open Jn (Chg)
def SlAt {α : Type} (w : World) (A : Option Addr) (L : List Nat) (k : Nat) (f : α → List Value) (xs : List α) : Prop :=
  0 < xs.length → ∃ b off, A = some ⟨b, off, none⟩ ∧ b < w.heap.size ∧ b ∉ L ∧ ∀ i x, xs[i]? = some x → w.rangeAt b (off + i * k) (f x)
theorem SlAt.only {α : Type} {w w' : World} {A : Option Addr} {L L' : List Nat} {k : Nat} {f : α → List Value} {xs : List α} (h : SlAt w A L k f xs) (ho : Only L' w w') (hL : ∀ x ∈ L', x ∈ L) : SlAt w' A L k f xs := fun h0 => by
  obtain ⟨b, off, e, h1, h2, h3⟩ := h h0
  exact ⟨b, off, e, Nat.lt_of_lt_of_le h1 ho.size, h2, fun i x hx j v hv => (ho.cell (p := ⟨b, off + i * k + j, none⟩) h1 (fun q => h2 (hL _ q))).trans (h3 i x hx j v hv)⟩
theorem SlAt.below {α : Type} {w w' : World} {A : Option Addr} {L : List Nat} {k : Nat} {f : α → List Value} {xs : List α} (h : SlAt w A L k f xs) (hb : Below w.heap.size w w') : SlAt w' A L k f xs := h.only (L' := []) (Only.below hb) (by simp)
theorem SlAt.mono {α : Type} {w : World} {A : Option Addr} {L L' : List Nat} {k : Nat} {f : α → List Value} {xs : List α} (h : SlAt w A L k f xs) (hL : ∀ x ∈ L', x ∈ L) : SlAt w A L' k f xs := fun h0 => by
  obtain ⟨b, off, e, h1, h2, h3⟩ := h h0
  exact ⟨b, off, e, h1, fun q => h2 (hL _ q), h3⟩
abbrev PgAt (w : World) (A : Option Addr) (L : List Nat) (ps : List (List UInt8)) : Prop := SlAt w A L 64 byteVals ps
theorem PgAt.row {w : World} {A : Option Addr} {L : List Nat} {ps : List (List UInt8)} (h : PgAt w A L ps) (hl : ps.length ≤ 1000) (hp : ∀ p ∈ ps, p.length = 64) : PageRow w A ps.length ps where
  len := rfl
  small := by unfold maxLen; omega
  size := hp
  cells := fun h0 => by
    obtain ⟨b, off, e, h1, _, h3⟩ := h h0
    exact ⟨b, off, e, h1, h3⟩
theorem RowsAt.slice {w : World} {b : Nat} {ps : List (List UInt8)} (h : RowsAt w b ps) {L : List Nat} (hb : b ∉ L) : PgAt w (some ⟨b, 0, none⟩) L ps := fun h0 =>
  ⟨b, 0, rfl, h.lt h0, hb, fun i p hp => by rw [Nat.zero_add]; exact h.range i p hp⟩
theorem RowsAt.below {w w' : World} {b : Nat} {ps : List (List UInt8)} (h : RowsAt w b ps) (hb : Below w.heap.size w w') (hl : b < w.heap.size) : RowsAt w' b ps := h.block (hb.block b hl)
theorem RowAt.block {w w' : World} {b : Nat} {vs : List Value} (h : RowAt w b vs) (hb : w'.heap[b]? = w.heap[b]?) : RowAt w' b vs := ⟨rangeAt_block h.range hb, there_block h.free hb⟩
theorem RowAt.only {w w' : World} {b : Nat} {v : Value} {vs : List Value} {L : List Nat} (h : RowAt w b (v :: vs)) (ho : Only L w w') (hL : b ∉ L) : RowAt w' b (v :: vs) := h.block (ho.block b h.lt hL)
def chgVals (c : Chg) : List Value := .int .i64 c.no :: byteVals c.page
def chgV (c : Chg) : Value := .agg (chgVals c).toArray
theorem chgVals_one (c : Chg) : ∀ v ∈ chgVals c, v.oneCell' = true := by
  intro v hv
  rcases List.mem_cons.1 hv with rfl | hv
  · rfl
  · exact byteVals_one _ v hv
theorem chgVals_length {c : Chg} (h : c.page.length = 64) : (chgVals c).length = 65 := by unfold chgVals; rw [List.length_cons, byteVals_length, h]
theorem chg_info : (Tryz.prog.info? 223).map (·.size) = some 65 := by kernel_rfl
abbrev ChAt (w : World) (A : Option Addr) (L : List Nat) (cs : List Chg) : Prop := SlAt w A L 65 chgVals cs
abbrev ChVar (w : World) (b : Nat) (c : Chg) : Prop := RowAt w b (chgVals c)
theorem ChVar.no {w : World} {b : Nat} {c : Chg} (h : ChVar w b c) : w.cell? ⟨b, 0, none⟩ = some (.int .i64 c.no) := RowAt.cell h 0 _ rfl
theorem ChVar.page {w : World} {b : Nat} {c : Chg} (h : ChVar w b c) : w.rangeAt b 1 (byteVals c.page) := fun j v hv => by
  have := h.range (j + 1) v (by unfold chgVals; exact hv)
  rwa [show 0 + (j + 1) = 1 + j by omega] at this
theorem wpList_load_chg {ops : Array Oper} {rest : List Oper} {op : Oper} {a : Act} {Q : Exit → Act → World → Prop} {w : World} {b o : Nat} {c : Chg} (hr : w.rangeAt b o (chgVals c)) (hp : c.page.length = 64) (hgd : op.guard = none) (x : Operand) (ho : op.op = .load 223 x)
    (hx : a.eval x = .pointer (some ⟨b, o, none⟩)) (h : wpList Tryz.prog ops Q rest (a.put op.dst (chgV c)) w) : wpList Tryz.prog ops Q (op :: rest) a w :=
  wpList_load_mid hgd 223 x ho b o hx (chgVals c) _ hr Tryz.underlying223 rfl (by rw [chg_info, chgVals_length hp]) h
theorem wpList_store_newchg {ops : Array Oper} {rest : List Oper} {op : Oper} {a : Act} {Q : Exit → Act → World → Prop} {w : World} {Z : Array Value} {t : TypeId} {c : Chg} (hp : c.page.length = 64) (hgd : op.guard = none) (x y : Operand) (ho : op.op = .store 223 x y)
    (hx : a.eval x = .pointer (some ⟨w.heap.size, 0, none⟩)) (hy : a.eval y = chgV c) (hZ : Z.size = 65)
    (h : ∀ W2, ChVar W2 w.heap.size c → Below w.heap.size w W2 → W2.heap.size = w.heap.size + 1 → wpList Tryz.prog ops Q rest (a.put op.dst undef) W2) :
    wpList Tryz.prog ops Q (op :: rest) a (w.alloc (.cells Z t)) := by
  have hlen : (chgVals c).toArray.size = 65 := by rw [List.size_toArray, chgVals_length hp]
  have ht : (w.alloc (.cells Z t)).there w.heap.size 0 65 := there_new w Z t _ (by omega)
  refine wpList_store_mid hgd 223 x y ho w.heap.size 0 (chgVals c).toArray hx hy (by rw [hlen]; exact ht) (by rw [chg_info, hlen]) (all_oneCell_toArray (chgVals_one c)) (h _ ?_ ?_ ?_)
  · exact ⟨World.rangeAt_setCells_same _ _ _ _ (by rw [List.toList_toArray, chgVals_length hp]; exact ht), World.there_setCells (by rw [chgVals_length hp]; exact ht) _ _ _⟩
  · exact below_setCells _ (Nat.le_refl _) _ _ _ ((Below.refl _ _).alloc (Nat.le_refl _) _)
  · rw [heap_setCells]; simp
def chgZero : Array Value := (chgVals ⟨0, zeros⟩).toArray
theorem chgZero_size : chgZero.size = 65 := by unfold chgZero; rw [List.size_toArray, chgVals_length zeros_length]
theorem zeroChg (w : World) : (zeroValue 223).run Tryz.prog w = .ok (.agg chgZero) w := by kernel_rfl
def regV (d a z : Nat) : Value := .agg #[.pointer (some ⟨d, 0, none⟩), .int .i64 (a : Int), .int .i64 (z : Int)]
def regVals (d a z : Nat) : List Value := [.pointer (some ⟨d, 0, none⟩), .int .i64 (a : Int), .int .i64 (z : Int)]
theorem reg_info : (Tryz.prog.info? 182).map (·.size) = some 3 := by kernel_rfl
def jVals (d a z : Nat) (q : Int) (o : Bool) : List Value := [.pointer (some ⟨d, 0, none⟩), .int .i64 (a : Int), .int .i64 (z : Int), .int .i64 q, .bool o]
structure JAt (w : World) (j d a z : Nat) (q : Int) (o : Bool) : Prop where
  row : RowAt w j (jVals d a z q o)
theorem JAt.c0 {w : World} {j d a z : Nat} {q : Int} {o : Bool} (h : JAt w j d a z q o) : w.cell? ⟨j, 0, none⟩ = some (.pointer (some ⟨d, 0, none⟩)) := h.row.cell 0 _ rfl
theorem JAt.c1 {w : World} {j d a z : Nat} {q : Int} {o : Bool} (h : JAt w j d a z q o) : w.cell? ⟨j, 1, none⟩ = some (.int .i64 (a : Int)) := h.row.cell 1 _ rfl
theorem JAt.c2 {w : World} {j d a z : Nat} {q : Int} {o : Bool} (h : JAt w j d a z q o) : w.cell? ⟨j, 2, none⟩ = some (.int .i64 (z : Int)) := h.row.cell 2 _ rfl
theorem JAt.c3 {w : World} {j d a z : Nat} {q : Int} {o : Bool} (h : JAt w j d a z q o) : w.cell? ⟨j, 3, none⟩ = some (.int .i64 q) := h.row.cell 3 _ rfl
theorem JAt.c4 {w : World} {j d a z : Nat} {q : Int} {o : Bool} (h : JAt w j d a z q o) : w.cell? ⟨j, 4, none⟩ = some (.bool o) := h.row.cell 4 _ rfl
theorem JAt.f {w : World} {j d a z : Nat} {q : Int} {o : Bool} (h : JAt w j d a z q o) (i : Nat) (hi : i < 5) : w.frozen? ⟨j, i, none⟩ = false := by
  have := (h.row.free i hi).2
  rwa [Nat.zero_add] at this
theorem JAt.lt {w : World} {j d a z : Nat} {q : Int} {o : Bool} (h : JAt w j d a z q o) : j < w.heap.size := h.row.lt
theorem JAt.block {w w' : World} {j d a z : Nat} {q : Int} {o : Bool} (h : JAt w j d a z q o) (hb : w'.heap[j]? = w.heap[j]?) : JAt w' j d a z q o := ⟨h.row.block hb⟩
theorem JAt.only {w w' : World} {j d a z : Nat} {q : Int} {o : Bool} {L : List Nat} (h : JAt w j d a z q o) (ho : Only L w w') (hL : j ∉ L) : JAt w' j d a z q o := h.block (ho.block j h.lt hL)
theorem JAt.below {w w' : World} {j d a z : Nat} {q : Int} {o : Bool} (h : JAt w j d a z q o) (hb : Below w.heap.size w w') : JAt w' j d a z q o := h.block (hb.block j h.lt)
theorem JAt.reg {w : World} {j d a z : Nat} {q : Int} {o : Bool} (h : JAt w j d a z q o) : w.rangeAt j 0 (regVals d a z) := fun i v hv => h.row.range i v (by
  unfold regVals at hv
  unfold jVals
  match i, hv with
  | 0, hv => exact hv
  | 1, hv => exact hv
  | 2, hv => exact hv)
theorem JAt.setSeq {w : World} {j d a z : Nat} {q : Int} {o : Bool} (h : JAt w j d a z q o) (x : Int) : JAt (w.setCell ⟨j, 3, none⟩ (.int .i64 x)) j d a z x o where
  row := ⟨fun i v hv => by
      rw [Nat.zero_add]
      by_cases e : 3 = i
      · subst e
        have hv' : v = .int .i64 x := by unfold jVals at hv; simpa using hv.symm
        rw [hv']
        exact World.cell?_setCell_same' _ _ _ (by rw [h.c3]; rfl)
      · rw [World.cell?_setCell_other _ _ _ _ (fun q => e (by injection q))]
        have : (jVals d a z q o)[i]? = some v := by
          rw [← hv]
          unfold jVals
          match i, e with
          | 0, _ => rfl
          | 1, _ => rfl
          | 2, _ => rfl
          | 4, _ => rfl
          | _ + 5, _ => rfl
        have := h.row.range i v this
        rwa [Nat.zero_add] at this,
    fun i hi => by
      have hf := h.row.free i hi
      rw [World.frozen?_setCell]
      refine ⟨?_, hf.2⟩
      by_cases e : 3 = i
      · subst e
        rw [Nat.zero_add, World.cell?_setCell_same' _ _ _ (by rw [h.c3]; rfl)]; rfl
      · rw [World.cell?_setCell_other _ _ _ _ (fun q => e (by injection q with _ q; omega))]; exact hf.1⟩
theorem JAt.setOver {w : World} {j d a z : Nat} {q : Int} {o : Bool} (h : JAt w j d a z q o) (x : Bool) : JAt (w.setCell ⟨j, 4, none⟩ (.bool x)) j d a z q x where
  row := ⟨fun i v hv => by
      rw [Nat.zero_add]
      by_cases e : 4 = i
      · subst e
        have hv' : v = .bool x := by unfold jVals at hv; simpa using hv.symm
        rw [hv']
        exact World.cell?_setCell_same' _ _ _ (by rw [h.c4]; rfl)
      · rw [World.cell?_setCell_other _ _ _ _ (fun q => e (by injection q))]
        have : (jVals d a z q o)[i]? = some v := by
          rw [← hv]
          unfold jVals
          match i, e with
          | 0, _ => rfl
          | 1, _ => rfl
          | 2, _ => rfl
          | 3, _ => rfl
          | _ + 5, _ => rfl
        have := h.row.range i v this
        rwa [Nat.zero_add] at this,
    fun i hi => by
      have hf := h.row.free i hi
      rw [World.frozen?_setCell]
      refine ⟨?_, hf.2⟩
      by_cases e : 4 = i
      · subst e
        rw [Nat.zero_add, World.cell?_setCell_same' _ _ _ (by rw [h.c4]; rfl)]; rfl
      · rw [World.cell?_setCell_other _ _ _ _ (fun q => e (by injection q with _ q; omega))]; exact hf.1⟩
theorem wpList_load_reg {ops : Array Oper} {rest : List Oper} {op : Oper} {a : Act} {Q : Exit → Act → World → Prop} {w : World} {b d x0 z : Nat} (hr : w.rangeAt b 0 (regVals d x0 z)) (hgd : op.guard = none) (x : Operand) (ho : op.op = .load 182 x)
    (hx : a.eval x = .pointer (some ⟨b, 0, none⟩)) (h : wpList Tryz.prog ops Q rest (a.put op.dst (regV d x0 z)) w) : wpList Tryz.prog ops Q (op :: rest) a w :=
  wpList_load_mid hgd 182 x ho b 0 hx (regVals d x0 z) _ hr Tryz.underlying182 rfl reg_info h
end

section
open Go.RowKit
open Dk (zeros zeros_length)
open Hd (Head rightB pageH)
open Jn (Chg)
theorem page_text {W : World} {B : Nat} {p : List UInt8} (h : PageAt W B p) : (convert 158 9 (.slice (some ⟨B, 0, none⟩) 64 64)).run Tryz.prog W = .ok (.string ⟨p.toArray⟩) W := by
  have := run_convert_bytes_back (P := Tryz.prog) W 158 9 5 ⟨B, 0, none⟩ 64 p Tryz.underlying158 Tryz.underlying5 Tryz.underlying9 (fun j hj => by
    rw [Addr.add_mid]
    have := h.range j _ (byteVals_at p j hj)
    exact this)
  rw [h.len] at this
  exact this
theorem sumPages_any (A : Option Addr) (n c : Nat) (ps : List (List UInt8)) (w : World) (hrow : PageRow w A n ps) (hn : n ≤ 1000) (h0 : 0 < n) :
    Calls Tryz.prog 186 #[.slice A n c] w fun e w' => e = .returned (.int .u32 (Jn.sumN ps)) ∧ Below w.heap.size w w' := by
  have HR : Hid (NxR w A n ps w) := Lib.hid ⟨hrow, Below.refl _ _⟩
  have HL := Lib.hid hrow.len
  have HZ := Lib.hid hrow.size
  clear hrow
  have hf := Mt.fit_zero
  go_enter Tryz.func186, Tryz.ntmps186
  go_wp2_with (go_at_call 198; refine (split_any _ _ (by omega) (by omega)).mono ?_; rintro e w' ⟨rfl, rfl⟩)
  go_loopw [3, 4, 13] (fun x y i wr => ∃ k : Nat, k ≤ n ∧ i = .int .i64 k ∧ x = .int .u32 (Mt.run (0, 0) (ps.take k).flatten).1 ∧ y = .int .u32 (Mt.run (0, 0) (ps.take k).flatten).2 ∧ NxR w A n ps wr) (fun _ _ i _ => n - (intOf i).toNat)
  case atStart => exact ⟨0, Nat.zero_le _, rfl, rfl, rfl, HR.out⟩
  case round =>
    obtain ⟨k, hk, rfl, rfl, rfl, hnx⟩ := hrel
    have HX := Lib.hid hnx
    clear hnx HR
    have hr := Mt.fit_run (0, 0) (ps.take k).flatten hf
    obtain ⟨r1, r2, r3, r4⟩ := id hr
    have HF := Lib.hid hr; clear hr
    by_cases hlt : k < n
    · obtain ⟨b, off, rfl, hb, hc⟩ := HX.out.1.cells (by omega)
      obtain ⟨p, hp⟩ : ∃ p, ps[k]? = some p := ⟨_, List.getElem?_eq_getElem (by rw [HL.out]; exact hlt)⟩
      have HP := Lib.hid (hc k p hp)
      have HPL := Lib.hid (HZ.out p (List.mem_of_getElem? hp))
      have HS : Hid (Mt.run (0, 0) (ps.take (k + 1)).flatten = Mt.run (Mt.run (0, 0) (ps.take k).flatten) (⟨p.toArray⟩ : ByteArray).data.toList) := Lib.hid (by
        rw [take_more ps k p hp, List.flatten_append, Mt.run_append]; simp)
      have HSZ : Hid ((⟨p.toArray⟩ : ByteArray).size ≤ maxLen) := Lib.hid (by show p.toArray.size ≤ _; rw [List.size_toArray, HPL.out]; unfold maxLen; omega)
      clear hc hp hb
      go_wp2_with (first
        | ((with_reducible refine wpList_load_at HP.out HPL.out rfl (.tmp 15) rfl ?_ ?_); (exact rfl))
        | ((with_reducible refine wpList_store_new rfl (.tmp 6) (.tmp 16) rfl rfl ?_ ?_ HPL.out ?_); (exact rfl); (exact rfl); intro W2 hP hB2 hz2; have hcv := page_text hP; have HX2 := Lib.hid (NxR.call HX.out hB2); clear HX hP hB2 hz2)
        | (go_at_call 199; refine (add_any _ _ _ _ HF.out HSZ.out).mono ?_; rintro e w' ⟨rfl, rfl⟩))
      go_roundw
      case rel => exact ⟨k + 1, by omega, by go_num, by rw [HS.out]; rfl, by rw [HS.out]; rfl, HX2.out⟩
      case measure => simp [intOf]; omega
    · have HK : Hid (ps.take k = ps) := Lib.hid (List.take_of_length_le (by rw [HL.out]; omega))
      go_wp2_with (go_at_call 200; refine (join_any _ _ _ r1 r2 r3 r4).mono ?_; rintro e w' ⟨rfl, rfl⟩)
      go_ret
      exact ⟨ret_int (by rw [HK.out]; rfl), HX.out.2⟩
def RoomIs (z r : Nat) : Prop := ∀ w, Calls Tryz.prog 143 #[.int .i64 (z : Int)] w fun e w' => e = .returned (.int .i64 (r : Int)) ∧ w = w'
theorem room40 : RoomIs 40 37 := fun w => by
  show Calls Tryz.prog 143 #[.int .i64 40] w fun e w' => e = .returned (.int .i64 37) ∧ w = w'
  go_enter Tryz.func143, Tryz.ntmps143
  go_wp2
  go_ret
  exact ⟨rfl, rfl⟩
theorem lists_any (n : Nat) (h1 : 1 ≤ n) (h2 : n ≤ 900) (w : World) : Calls Tryz.prog 185 #[.int .i64 (n : Int)] w fun e w' => e = .returned (.int .i64 ((Jn.nl n : Nat) : Int)) ∧ w = w' := by
  go_enter Tryz.func185, Tryz.ntmps185
  go_wp2
  go_ret
  exact ⟨ret_int (by unfold Jn.nl; omega), rfl⟩
def otherB (n a z : Nat) (i : Int) : Bool := decide (0 ≤ i ∧ i < (n : Int) ∧ (i < (a : Int) ∨ (a : Int) + (z : Int) ≤ i))
theorem other_any {w : World} {d l m : Nat} {s : Dk.St} (h : DiskAt w d l m s) (a z : Nat) (ha : a ≤ 1000) (hz : z ≤ 1000) (i : Int) :
    Calls Tryz.prog 188 #[regV d a z, .int .i64 i] w fun e w' => e = .returned (.bool (otherB s.last.length a z i)) ∧ Below w.heap.size w w' := by
  have HD := Lib.hid (pages_any (h.alloc (.cells #[.pointer (some ⟨d, 0, none⟩), .int .i64 (a : Int), .int .i64 (z : Int)] 182)))
  have hsm := h.ok.small
  clear h
  unfold regV
  generalize s.last.length = n at HD hsm ⊢
  by_cases c1 : 0 ≤ i
  · by_cases c2 : i < (n : Int)
    · by_cases c3 : i < (a : Int)
      · go_enter Tryz.func188, Tryz.ntmps188
        go_wp2_with (go_at_call 53; refine HD.out.mono ?_; rintro e w' ⟨rfl, rfl⟩)
        go_ret
        exact ⟨ret_bool (by unfold otherB; symm; rw [decide_eq_true_iff]; omega), (Below.refl _ _).alloc (Nat.le_refl _) _⟩
      · go_enter Tryz.func188, Tryz.ntmps188
        go_wp2_with (go_at_call 53; refine HD.out.mono ?_; rintro e w' ⟨rfl, rfl⟩)
        go_ret
        exact ⟨ret_bool (by unfold otherB; rw [← Bool.decide_or, decide_eq_decide]; omega), (Below.refl _ _).alloc (Nat.le_refl _) _⟩
    · go_enter Tryz.func188, Tryz.ntmps188
      go_wp2_with (go_at_call 53; refine HD.out.mono ?_; rintro e w' ⟨rfl, rfl⟩)
      go_ret
      exact ⟨ret_bool (by unfold otherB; symm; rw [decide_eq_false_iff_not]; omega), (Below.refl _ _).alloc (Nat.le_refl _) _⟩
  · go_enter Tryz.func188, Tryz.ntmps188
    go_wp2_with fail
    go_ret
    exact ⟨ret_bool (by unfold otherB; symm; rw [decide_eq_false_iff_not]; omega), (Below.refl _ _).alloc (Nat.le_refl _) _⟩
end

section
open Go.RowKit
open Dk (zeros zeros_length)
open Hd (Head rightB pageH)
open Jn (Chg)
structure PutI (w : World) (d l m : Nat) (R : World → Prop) (r a z : Nat) (s : Dk.St) (W : World) : Prop where
  disk : DiskAt W d l m s
  row : R W
  reg : RowAt W r (regVals d a z)
  fresh : w.heap.size ≤ r
  old : d < w.heap.size ∧ l < w.heap.size ∧ m < w.heap.size
  only : Only [d, l, m] w W
def Stays (R : World → Prop) (d l m : Nat) : Prop := ∀ W W' L, (∀ x ∈ L, x ∈ [d, l, m]) → Only L W W' → R W → R W'
theorem PutI.call {w : World} {d l m : Nat} {R : World → Prop} {r a z : Nat} {s s' : Dk.St} {W W' : World} {L : List Nat} (h : PutI w d l m R r a z s W) (hR : Stays R d l m) (hd : DiskAt W' d l m s') (ho : Only L W W') (hL : ∀ x ∈ L, x ∈ [d, l, m]) : PutI w d l m R r a z s' W' where
  disk := hd
  row := hR W W' L hL ho h.row
  reg := h.reg.only ho (fun e => by have := hL _ e; have := h.old; have := h.fresh; simp at *; omega)
  fresh := h.fresh
  old := h.old
  only := h.only.trans (ho.mono hL)
theorem PutI.below {w : World} {d l m : Nat} {R : World → Prop} {r a z : Nat} {s : Dk.St} {W W' : World} (h : PutI w d l m R r a z s W) (hR : Stays R d l m) (hb : Below W.heap.size W W') : PutI w d l m R r a z s W' :=
  h.call hR (h.disk.below hb) (Only.below (l := []) hb) (by simp)
theorem PutI.far {w : World} {d l m : Nat} {R : World → Prop} {r a z : Nat} {s : Dk.St} {W : World} (h : PutI w d l m R r a z s W) (b : Nat) (hb : w.heap.size ≤ b) : b ∉ [d, l, m] := fun e => by
  have := h.old
  simp at e
  omega
theorem putI_start {w : World} {d l m : Nat} {R : World → Prop} {s : Dk.St} (a z : Nat) (h : DiskAt w d l m s) (hR : Stays R d l m) (hr : R w) (t : TypeId) : PutI w d l m R w.heap.size a z s (w.alloc (.cells (regVals d a z).toArray t)) where
  disk := h.alloc _
  row := hR w _ [] (by simp) ((Only.refl _ _).alloc _) hr
  reg := rowAt_new w _ t
  fresh := Nat.le_refl _
  old := ⟨h.dlt, h.llt, h.mlt⟩
  only := (Only.refl _ _).alloc _
theorem stays_pg (A : Option Addr) (d l m : Nat) (ps : List (List UInt8)) : Stays (fun W => PgAt W A [d, l, m] ps) d l m := fun _ _ _ hL ho h => h.only ho hL
theorem stays_ch (A : Option Addr) (d l m : Nat) (cs : List Chg) : Stays (fun W => ChAt W A [d, l, m] cs) d l m := fun _ _ _ hL ho h => h.only ho hL
theorem layAt_rest (ps : List (List UInt8)) (a k : Nat) (p : List UInt8) (h : ps[k]? = some p) : Jn.layAt (a + k) (ps.drop k) = ⟨((a + k : Nat) : Int), p⟩ :: Jn.layAt (a + (k + 1)) (ps.drop (k + 1)) := by
  obtain ⟨hk, he⟩ := List.getElem?_eq_some_iff.1 h
  rw [List.drop_eq_getElem_cons hk, he]
  rfl
theorem runW_ok {s : Dk.St} {c : Chg} {r : List Chg} (h : Dk.writeE s c.no = 0) : Jn.runW s (c :: r) = Jn.runW (Dk.write s c.no c.page) r := by rw [Jn.runW, if_pos h]
theorem runW_bad {s : Dk.St} {c : Chg} {r : List Chg} (h : Dk.writeE s c.no ≠ 0) : Jn.runW s (c :: r) = (Dk.write s c.no c.page, Dk.writeE s c.no) := by rw [Jn.runW, if_neg h]
theorem put_any {w : World} {d l m : Nat} {s : Dk.St} (h : DiskAt w d l m s) (g a z : Nat) (A : Option Addr) (c : Nat) (ps : List (List UInt8)) (hrow : PgAt w A [d, l, m] ps) (hp : ∀ p ∈ ps, p.length = 64) (hl : ps.length ≤ 1000) (ha : a ≤ 1000) :
    Calls Tryz.prog 183 #[regV d g z, .int .i64 (a : Int), .slice A ps.length c] w fun e w' => e = .returned (.int .i64 (Jn.runW s (Jn.layAt a ps)).2) ∧ DiskAt w' d l m (Jn.runW s (Jn.layAt a ps)).1 ∧ Only [d, l, m] w w' := by
  have HS := Lib.hid (putI_start g z h (stays_pg A d l m ps) hrow 182)
  have HP := Lib.hid hp
  have HST := Lib.hid (stays_pg A d l m ps)
  clear h hrow hp
  obtain ⟨n, hn⟩ : ∃ n, ps.length = n := ⟨_, rfl⟩
  have HN := Lib.hid hn
  rw [hn] at hl ⊢
  clear hn
  unfold regV
  go_enter Tryz.func183, Tryz.ntmps183
  go_wp2_with fail
  unfold regVals at HS
  generalize (w.alloc (.cells _ 182)) = w1 at HS ⊢
  generalize hrb : w.heap.size = rb at HS ⊢
  go_loopw [12] (fun i wr => ∃ (k : Nat) (sk : Dk.St), k ≤ n ∧ i = .int .i64 k ∧ PutI w d l m (fun W => PgAt W A [d, l, m] ps) rb g z sk wr ∧ Jn.runW s (Jn.layAt a ps) = Jn.runW sk (Jn.layAt (a + k) (ps.drop k))) (fun i _ => n - (intOf i).toNat)
  case atStart => exact ⟨0, s, Nat.zero_le _, rfl, HS.out, rfl⟩
  case round =>
    obtain ⟨k, sk, hk, rfl, hput, hrun⟩ := hrel
    have HI := Lib.hid hput
    have HR := Lib.hid hrun
    clear hput hrun HS
    by_cases hlt : k < n
    · obtain ⟨p, hpk⟩ : ∃ p, ps[k]? = some p := ⟨_, List.getElem?_eq_getElem (by rw [HN.out]; exact hlt)⟩
      obtain ⟨b, off, rfl, hb, _, hc⟩ := HI.out.row (by rw [HN.out]; omega)
      have HC := Lib.hid (hc k p hpk)
      have HPL := Lib.hid (HP.out p (List.mem_of_getElem? hpk))
      have HE := Lib.hid (layAt_rest ps a k p hpk)
      clear hb hc hpk
      have HX : Hid ((a : Int) + (k : Int) = ((a + k : Nat) : Int)) := Lib.hid (by omega)
      have hF : Hid (wr.heap.size ∉ [d, l, m]) := Lib.hid (HI.out.far _ (HI.out.only.size))
      go_wp2_with (first
        | ((with_reducible refine wpList_load_at HC.out HPL.out rfl (.tmp 15) rfl ?_ ?_); (exact rfl))
        | ((with_reducible refine wpList_store_new rfl (.tmp 8) (.tmp 16) rfl rfl ?_ ?_ HPL.out ?_); (exact rfl); (exact rfl); intro W2 hP hB2 hz2; have HI2 := Lib.hid (HI.out.below HST.out hB2); have HP2 := Lib.hid hP; have hr0 := HI2.out.reg.cell 0 _ rfl; clear HI hP hB2 hz2; generalize wr.heap.size = B at HP2 hF ⊢)
        | (with_reducible refine wpList_load_page HP2.out rfl (.tmp 8) rfl rfl ?_))
      rw [HX.out]
      refine (write_any HI2.out.disk _ p HPL.out).mono ?_
      rintro e W3 ⟨rfl, hd3, ho3⟩
      have HI3 := Lib.hid (HI2.out.call HST.out hd3 ho3 (by simp))
      clear HI2 HP2 hr0 hd3 ho3
      by_cases hw : Dk.writeE sk ((a + k : Nat) : Int) = 0
      · have HRW : Hid (Jn.runW s (Jn.layAt a ps) = Jn.runW (Dk.write sk ((a + k : Nat) : Int) p) (Jn.layAt (a + (k + 1)) (ps.drop (k + 1)))) := Lib.hid (by rw [HR.out, HE.out, runW_ok hw])
        rw [hw]
        go_wp2
        go_roundw
        case rel => exact ⟨k + 1, _, by omega, by go_num, HI3.out, HRW.out⟩
        case measure => simp [intOf]; omega
      · have HRW : Hid (Jn.runW s (Jn.layAt a ps) = (Dk.write sk ((a + k : Nat) : Int) p, Dk.writeE sk ((a + k : Nat) : Int))) := Lib.hid (by rw [HR.out, HE.out, runW_bad hw])
        have hne2 : (Dk.writeE sk ((a + k : Nat) : Int) == 0) = false := by simpa using hw
        have hne3 : (Dk.writeE sk ((a + k : Nat) : Int) != 0) = true := by simpa using hw
        generalize Dk.writeE sk ((a + k : Nat) : Int) = E at hne2 hne3 HRW ⊢
        clear hw
        go_wp2
        go_ret
        rw [HRW.out]
        exact ⟨rfl, HI3.out.disk, HI3.out.only⟩
    · obtain rfl : k = n := by omega
      have HRW : Hid (Jn.runW s (Jn.layAt a ps) = (Dk.flush sk, Dk.flushE sk)) := Lib.hid (by rw [HR.out, List.drop_of_length_le (by rw [HN.out]; omega)]; rfl)
      have hr0 := HI.out.reg.cell 0 _ rfl
      go_wp2_with fail
      refine (flush_any HI.out.disk).mono ?_
      rintro e W3 ⟨rfl, hd3, ho3⟩
      have HI3 := Lib.hid (HI.out.call HST.out hd3 ho3 (by simp))
      clear HI hr0 hd3 ho3
      go_wp2
      go_ret
      rw [HRW.out]
      exact ⟨rfl, HI3.out.disk, HI3.out.only⟩
theorem drop_rest (cs : List Chg) (k : Nat) (c : Chg) (h : cs[k]? = some c) : cs.drop k = c :: cs.drop (k + 1) := by
  obtain ⟨hk, he⟩ := List.getElem?_eq_some_iff.1 h
  rw [List.drop_eq_getElem_cons hk, he]
theorem apply_any {w : World} {d l m : Nat} {s : Dk.St} (h : DiskAt w d l m s) (g z : Nat) (A : Option Addr) (c : Nat) (cs : List Chg) (hrow : ChAt w A [d, l, m] cs) (hp : ∀ x ∈ cs, x.page.length = 64) (hl : cs.length ≤ 1000) :
    Calls Tryz.prog 170 #[regV d g z, .slice A cs.length c] w fun e w' => e = .returned (.int .i64 (Jn.runW s cs).2) ∧ DiskAt w' d l m (Jn.runW s cs).1 ∧ Only [d, l, m] w w' := by
  have HS := Lib.hid (putI_start g z h (stays_ch A d l m cs) hrow 182)
  have HP := Lib.hid hp
  have HST := Lib.hid (stays_ch A d l m cs)
  clear h hrow hp
  obtain ⟨n, hn⟩ : ∃ n, cs.length = n := ⟨_, rfl⟩
  have HN := Lib.hid hn
  rw [hn] at hl ⊢
  clear hn
  unfold regV
  go_enter Tryz.func170, Tryz.ntmps170
  go_wp2_with fail
  unfold regVals at HS
  generalize (w.alloc (.cells _ 182)) = w1 at HS ⊢
  generalize hrb : w.heap.size = rb at HS ⊢
  go_loopw [10] (fun i wr => ∃ (k : Nat) (sk : Dk.St), k ≤ n ∧ i = .int .i64 k ∧ PutI w d l m (fun W => ChAt W A [d, l, m] cs) rb g z sk wr ∧ Jn.runW s cs = Jn.runW sk (cs.drop k)) (fun i _ => n - (intOf i).toNat)
  case atStart => exact ⟨0, s, Nat.zero_le _, rfl, HS.out, rfl⟩
  case round =>
    obtain ⟨k, sk, hk, rfl, hput, hrun⟩ := hrel
    have HI := Lib.hid hput
    have HR := Lib.hid hrun
    clear hput hrun HS
    by_cases hlt : k < n
    · obtain ⟨x, hpk⟩ : ∃ x, cs[k]? = some x := ⟨_, List.getElem?_eq_getElem (by rw [HN.out]; exact hlt)⟩
      obtain ⟨b, off, rfl, hb, _, hc⟩ := HI.out.row (by rw [HN.out]; omega)
      have HC := Lib.hid (hc k x hpk)
      have HPL := Lib.hid (HP.out x (List.mem_of_getElem? hpk))
      have HE := Lib.hid (drop_rest cs k x hpk)
      clear hb hc hpk
      have hF : Hid (wr.heap.size ∉ [d, l, m]) := Lib.hid (HI.out.far _ (HI.out.only.size))
      have hzc := zeroChg
      go_wp2_with (first
        | ((with_reducible refine wpList_load_chg HC.out HPL.out rfl (.tmp 12) rfl ?_ ?_); (exact rfl))
        | ((with_reducible refine wpList_store_newchg HPL.out rfl (.tmp 6) (.tmp 13) rfl rfl ?_ chgZero_size ?_); (exact rfl); intro W2 hP hB2 hz2; have HI2 := Lib.hid (HI.out.below HST.out hB2); have HP2 := Lib.hid hP; have hr0 := HI2.out.reg.cell 0 _ rfl; have hv0 := ChVar.no hP; have HV1 := Lib.hid (ChVar.page hP); clear HI hP hB2 hz2; generalize wr.heap.size = B at HP2 hF hv0 HV1 ⊢)
        | ((with_reducible refine wpList_load_at HV1.out HPL.out rfl (.tmp 18) rfl ?_ ?_); (exact rfl)))
      refine (write_any HI2.out.disk _ x.page HPL.out).mono ?_
      rintro e W3 ⟨rfl, hd3, ho3⟩
      have HI3 := Lib.hid (HI2.out.call HST.out hd3 ho3 (by simp))
      clear HI2 HP2 hr0 hd3 ho3 hv0 HV1
      by_cases hw : Dk.writeE sk x.no = 0
      · have HRW : Hid (Jn.runW s cs = Jn.runW (Dk.write sk x.no x.page) (cs.drop (k + 1))) := Lib.hid (by rw [HR.out, HE.out, runW_ok hw])
        rw [hw]
        go_wp2
        go_roundw
        case rel => exact ⟨k + 1, _, by omega, by go_num, HI3.out, HRW.out⟩
        case measure => simp [intOf]; omega
      · have HRW : Hid (Jn.runW s cs = (Dk.write sk x.no x.page, Dk.writeE sk x.no)) := Lib.hid (by rw [HR.out, HE.out, runW_bad hw])
        have hne2 : (Dk.writeE sk x.no == 0) = false := by simpa using hw
        have hne3 : (Dk.writeE sk x.no != 0) = true := by simpa using hw
        generalize Dk.writeE sk x.no = E at hne2 hne3 HRW ⊢
        clear hw
        go_wp2
        go_ret
        rw [HRW.out]
        exact ⟨rfl, HI3.out.disk, HI3.out.only⟩
    · obtain rfl : k = n := by omega
      have HRW : Hid (Jn.runW s cs = (Dk.flush sk, Dk.flushE sk)) := Lib.hid (by rw [HR.out, List.drop_of_length_le (by rw [HN.out]; omega)]; rfl)
      have hr0 := HI.out.reg.cell 0 _ rfl
      go_wp2_with fail
      refine (flush_any HI.out.disk).mono ?_
      rintro e W3 ⟨rfl, hd3, ho3⟩
      have HI3 := Lib.hid (HI.out.call HST.out hd3 ho3 (by simp))
      clear HI hr0 hd3 ho3
      go_wp2
      go_ret
      rw [HRW.out]
      exact ⟨rfl, HI3.out.disk, HI3.out.only⟩
end

section
open Go.RowKit
open Dk (zeros zeros_length)
open Hd (Head rightB pageH)
open Jn (Chg)
structure MarkAt (w : World) (b : Nat) (f : Nat → Bool) : Prop where
  cell : ∀ i, i < 512 → w.cell? ⟨b, i, none⟩ = some (.bool (f i))
  free : ∀ i, i < 512 → w.frozen? ⟨b, i, none⟩ = false
def mark (f : Nat → Bool) (j : Nat) : Nat → Bool := fun i => i == j || f i
theorem MarkAt.block {w w' : World} {b : Nat} {f : Nat → Bool} (h : MarkAt w b f) (hb : w'.heap[b]? = w.heap[b]?) : MarkAt w' b f :=
  ⟨fun i hi => (World.cell?_of_block (w := w) (a := ⟨b, i, none⟩) hb).trans (h.cell i hi), fun i hi => (World.frozen?_of_block (w := w) (a := ⟨b, i, none⟩) hb).trans (h.free i hi)⟩
theorem MarkAt.lt {w : World} {b : Nat} {f : Nat → Bool} (h : MarkAt w b f) : b < w.heap.size := World.block_lt_of_cell? w _ (h.cell 0 (by omega))
theorem MarkAt.below {w w' : World} {b : Nat} {f : Nat → Bool} (h : MarkAt w b f) (hb : Below w.heap.size w w') : MarkAt w' b f := h.block (hb.block b h.lt)
theorem MarkAt.set {w : World} {b : Nat} {f : Nat → Bool} (h : MarkAt w b f) (j : Nat) (hj : j < 512) : MarkAt (w.setCell ⟨b, j, none⟩ (.bool true)) b (mark f j) where
  cell := fun i hi => by
    by_cases e : j = i
    · subst e
      rw [World.cell?_setCell_same' _ _ _ (by rw [h.cell j hj]; rfl)]
      simp [mark]
    · rw [World.cell?_setCell_other _ _ _ _ (fun q => e (by injection q)), h.cell i hi]
      have : (i == j) = false := by simpa using fun q => e q.symm
      simp [mark, this]
  free := fun i hi => by rw [World.frozen?_setCell]; exact h.free i hi
def noMarks : Array Value := (List.replicate 512 (Value.bool false)).toArray
theorem noMarks_zero (w : World) : (zeroValue 237).run Tryz.prog w = .ok (.agg noMarks) w := by kernel_rfl
theorem markAt_new (w : World) (t : TypeId) : MarkAt (w.alloc (.cells noMarks t)) w.heap.size (fun _ => false) where
  cell := fun i hi => by
    rw [World.cell?_alloc_mark]
    unfold noMarks
    rw [List.getElem?_toArray, List.getElem?_replicate, if_pos hi]
  free := fun i hi => by
    rw [World.frozen?_alloc_mark]
    simp
def takesFrom (n a z : Nat) : (Nat → Bool) → List Chg → Bool
  | _, [] => true
  | f, c :: r => if otherB n a z c.no = true ∧ f c.no.toNat = false then takesFrom n a z (mark f c.no.toNat) r else false
def takesB (n a z : Nat) (cs : List Chg) : Bool := takesFrom n a z (fun _ => false) cs
structure TakI (w : World) (d l m : Nat) (s : Dk.St) (A : Option Addr) (cs : List Chg) (r a z t : Nat) (f : Nat → Bool) (W : World) : Prop where
  disk : DiskAt W d l m s
  row : ChAt W A [] cs
  reg : RowAt W r (regVals d a z)
  marks : MarkAt W t f
  fresh : w.heap.size ≤ t
  apart : t ≠ r
  old : d < w.heap.size ∧ l < w.heap.size ∧ m < w.heap.size
  rowold : ∀ b off, 0 < cs.length → A = some ⟨b, off, none⟩ → b < w.heap.size
  below : Below w.heap.size w W
theorem TakI.call {w : World} {d l m : Nat} {s : Dk.St} {A : Option Addr} {cs : List Chg} {r a z t : Nat} {f : Nat → Bool} {W W' : World} (h : TakI w d l m s A cs r a z t f W) (hb : Below W.heap.size W W') : TakI w d l m s A cs r a z t f W' :=
  ⟨h.disk.below hb, h.row.below hb, h.reg.below hb h.reg.lt, h.marks.below hb, h.fresh, h.apart, h.old, h.rowold, h.below.trans (hb.mono h.below.size)⟩
theorem TakI.set {w : World} {d l m : Nat} {s : Dk.St} {A : Option Addr} {cs : List Chg} {r a z t : Nat} {f : Nat → Bool} {W : World} (h : TakI w d l m s A cs r a z t f W) (j : Nat) (hj : j < 512) : TakI w d l m s A cs r a z t (mark f j) (W.setCell ⟨t, j, none⟩ (.bool true)) := by
  have ho : Only [t] W (W.setCell ⟨t, j, none⟩ (.bool true)) := (Only.refl _ _).setCell (by simp) _
  have hf := h.fresh
  have hold := h.old
  exact { disk := h.disk.only ho (by simp; omega) (by simp; omega) (by simp; omega)
          row := fun h0 => by
            obtain ⟨b, off, e, h1, h2, h3⟩ := h.row h0
            have := h.rowold b off h0 e
            exact ⟨b, off, e, by have := ho.size; omega, h2, fun i x hx k v hv => (ho.cell (p := ⟨b, off + i * 65 + k, none⟩) h1 (by simp; omega)).trans (h3 i x hx k v hv)⟩
          reg := h.reg.only ho (by simp; exact Ne.symm h.apart)
          marks := h.marks.set j hj
          fresh := h.fresh, apart := h.apart, old := h.old, rowold := h.rowold
          below := h.below.setCell (by exact h.fresh) _ }
theorem takI_start {w : World} {d l m : Nat} {s : Dk.St} {A : Option Addr} {cs : List Chg} (a z : Nat) (h : DiskAt w d l m s) (hrow : ChAt w A [] cs) (t1 t2 : TypeId) :
    TakI w d l m s A cs w.heap.size a z (w.heap.size + 1) (fun _ => false) ((w.alloc (.cells (regVals d a z).toArray t1)).alloc (.cells noMarks t2)) where
  disk := (h.alloc _).alloc _
  row := (hrow.below ((Below.refl _ _).alloc (Nat.le_refl _) _)).below ((Below.refl _ _).alloc (Nat.le_refl _) _)
  reg := (rowAt_new w _ t1).alloc _
  marks := by simpa using markAt_new (w.alloc (.cells (regVals d a z).toArray t1)) t2
  fresh := by omega
  apart := by omega
  old := ⟨h.dlt, h.llt, h.mlt⟩
  rowold := fun b off h0 e => by
    obtain ⟨b', off', e', h1, _⟩ := hrow h0
    rw [e] at e'
    injection e' with e'
    injection e' with e1
    omega
  below := ((Below.refl _ _).alloc (Nat.le_refl _) _).alloc (by simp) _
theorem takes_ok {n a z : Nat} {f : Nat → Bool} {c : Chg} {r : List Chg} (h1 : otherB n a z c.no = true) (h2 : f c.no.toNat = false) : takesFrom n a z f (c :: r) = takesFrom n a z (mark f c.no.toNat) r := by rw [takesFrom, if_pos ⟨h1, h2⟩]
theorem takes_bad {n a z : Nat} {f : Nat → Bool} {c : Chg} {r : List Chg} (h : ¬ (otherB n a z c.no = true ∧ f c.no.toNat = false)) : takesFrom n a z f (c :: r) = false := by rw [takesFrom, if_neg h]
theorem takes_any {w : World} {d l m : Nat} {s : Dk.St} (h : DiskAt w d l m s) (a z : Nat) (ha : a ≤ 1000) (hz : z ≤ 1000) (A : Option Addr) (c : Nat) (cs : List Chg) (hrow : ChAt w A [] cs) (hp : ∀ x ∈ cs, x.page.length = 64) (hl : cs.length ≤ 1000) :
    Calls Tryz.prog 174 #[regV d a z, .slice A cs.length c] w fun e w' => e = .returned (.bool (takesB s.last.length a z cs)) ∧ Below w.heap.size w w' := by
  have HS := Lib.hid (takI_start a z h hrow 182 237)
  have HP := Lib.hid hp
  have hsm := h.ok.small
  clear h hrow hp
  obtain ⟨n, hn⟩ : ∃ n, cs.length = n := ⟨_, rfl⟩
  have HN := Lib.hid hn
  rw [hn] at hl ⊢
  clear hn
  unfold regV
  have hz80 := noMarks_zero
  go_enter Tryz.func174, Tryz.ntmps174
  go_wp2_with fail
  unfold regVals at HS
  generalize ((w.alloc (.cells _ 182)).alloc (.cells noMarks 237)) = w1 at HS ⊢
  generalize hrb : w.heap.size = rb at HS ⊢
  go_loopw [10] (fun i wr => ∃ (k : Nat) (f : Nat → Bool), k ≤ n ∧ i = .int .i64 k ∧ TakI w d l m s A cs rb a z (rb + 1) f wr ∧ takesB s.last.length a z cs = takesFrom s.last.length a z f (cs.drop k)) (fun i _ => n - (intOf i).toNat)
  case atStart => exact ⟨0, _, Nat.zero_le _, rfl, HS.out, rfl⟩
  case round =>
    obtain ⟨k, f, hk, rfl, hput, hrun⟩ := hrel
    have HI := Lib.hid hput
    have HR := Lib.hid hrun
    clear hput hrun HS
    by_cases hlt : k < n
    · obtain ⟨x, hpk⟩ : ∃ x, cs[k]? = some x := ⟨_, List.getElem?_eq_getElem (by rw [HN.out]; exact hlt)⟩
      obtain ⟨b, off, rfl, hb, _, hc⟩ := HI.out.row (by rw [HN.out]; omega)
      have HC := Lib.hid (hc k x hpk)
      have HPL := Lib.hid (HP.out x (List.mem_of_getElem? hpk))
      have HE := Lib.hid (drop_rest cs k x hpk)
      clear hb hc hpk
      have hzc := zeroChg
      go_wp2_with (first
        | ((with_reducible refine wpList_load_chg HC.out HPL.out rfl (.tmp 12) rfl ?_ ?_); (exact rfl))
        | ((with_reducible refine wpList_store_newchg HPL.out rfl (.tmp 7) (.tmp 13) rfl rfl ?_ chgZero_size ?_); (exact rfl); intro W2 hP hB2 hz2; have HI2 := Lib.hid (HI.out.call hB2); have HP2 := Lib.hid hP; have hv0 := ChVar.no hP; clear HI hP hB2 hz2; generalize wr.heap.size = B at HP2 hv0 ⊢)
        | (with_reducible refine wpList_load_reg HI2.out.reg.range rfl (.tmp 2) rfl rfl ?_))
      refine (other_any HI2.out.disk a z ha hz x.no).mono ?_
      rintro e W3 ⟨rfl, hb3⟩
      have HI3 := Lib.hid (HI2.out.call hb3)
      have HP3 := Lib.hid (RowAt.below HP2.out hb3 (RowAt.lt HP2.out))
      have hv3 := ChVar.no HP3.out
      clear HI2 HP2 hb3 hv0
      by_cases ho : otherB s.last.length a z x.no = true
      · have hoo : 0 ≤ x.no ∧ x.no < (s.last.length : Int) ∧ (x.no < (a : Int) ∨ (a : Int) + (z : Int) ≤ x.no) := of_decide_eq_true ho
        obtain ⟨j, hj⟩ : ∃ j : Nat, x.no = (j : Int) := ⟨x.no.toNat, by omega⟩
        have hj512 : j < 512 := by omega
        have HT : Hid (x.no.toNat = j) := Lib.hid (by omega)
        have HOT := Lib.hid ho
        rw [ho]
        clear hoo ho
        rw [hj] at hv3
        have hm3 := HI3.out.marks.cell j hj512
        have hf3 := HI3.out.marks.free j hj512
        clear hj
        cases hfj : f j with
        | true =>
          have HRW : Hid (takesB s.last.length a z cs = false) := Lib.hid (by rw [HR.out, HE.out, takes_bad (by rw [HT.out, hfj]; simp)])
          rw [hfj] at hm3
          go_wp2
          go_ret
          exact ⟨by rw [HRW.out]; rfl, HI3.out.below⟩
        | false =>
          have HRW : Hid (takesB s.last.length a z cs = takesFrom s.last.length a z (mark f j) (cs.drop (k + 1))) := Lib.hid (by rw [HR.out, HE.out, takes_ok HOT.out (by rw [HT.out, hfj]), HT.out])
          rw [hfj] at hm3
          go_wp2
          go_roundw
          case rel => exact ⟨k + 1, _, by omega, by go_num, HI3.out.set j hj512, HRW.out⟩
          case measure => simp [intOf]; omega
      · have HRW : Hid (takesB s.last.length a z cs = false) := Lib.hid (by rw [HR.out, HE.out, takes_bad (fun q => ho q.1)])
        have ho' : otherB s.last.length a z x.no = false := by simpa using ho
        rw [ho']
        clear ho ho'
        go_wp2
        go_ret
        exact ⟨by rw [HRW.out]; rfl, HI3.out.below⟩
    · obtain rfl : k = n := by omega
      have HRW : Hid (takesB s.last.length a z cs = true) := Lib.hid (by rw [HR.out, List.drop_of_length_le (by rw [HN.out]; omega)]; rfl)
      go_wp2_with fail
      go_ret
      exact ⟨by rw [HRW.out]; rfl, HI.out.below⟩
end

section
open Go.RowKit
open Dk (zeros zeros_length)
open Hd (Head rightB pageH)
open Jn (Chg)
def lyK (cs : List Chg) (k : Nat) : List (List UInt8) := ((List.range (Jn.nl cs.length)).map fun j => Jn.lp cs j k) ++ ((cs.take k).map (·.page) ++ List.replicate (cs.length - k) zeros)
theorem lyK_length (cs : List Chg) (k : Nat) (h : k ≤ cs.length) : (lyK cs k).length = Jn.nl cs.length + cs.length := by unfold lyK; simp; omega
theorem lyK_zero (cs : List Chg) : lyK cs 0 = List.replicate (Jn.nl cs.length + cs.length) zeros := by
  unfold lyK
  rw [← List.replicate_append_replicate]
  congr 1
  · rw [List.eq_replicate_iff]
    refine ⟨by simp, fun p hp => ?_⟩
    obtain ⟨j, _, rfl⟩ := List.mem_map.1 hp
    rfl
theorem lyK_all (cs : List Chg) : lyK cs cs.length = Jn.layN cs := by unfold lyK Jn.layN; simp
theorem lyK_num (cs : List Chg) (k j : Nat) (hj : j < Jn.nl cs.length) : (lyK cs k)[j]? = some (Jn.lp cs j k) := by
  unfold lyK
  rw [List.getElem?_append_left (by simp; exact hj), List.getElem?_map, List.getElem?_range hj]; rfl
theorem lyK_step (cs : List Chg) (k : Nat) (x : Chg) (h : cs[k]? = some x) : ((lyK cs k).set (k / 32) (Pg.setN (Jn.lp cs (k / 32) k) (((k % 32 : Nat) : Int) * 2) 2 x.no)).set (Jn.nl cs.length + k) x.page = lyK cs (k + 1) := by
  obtain ⟨hk, he⟩ := List.getElem?_eq_some_iff.1 h
  have hx : cs.getD k Jn.none' = x := by rw [List.getD_eq_getElem?_getD, h]; rfl
  have hj := Jn.nl_lt hk
  unfold lyK
  rw [List.set_append_left _ _ (by simp; exact hj), List.set_append_right _ _ (by simp)]
  congr 1
  · apply List.ext_getElem
    · simp
    · intro i h1 h2
      simp only [List.length_set, List.length_map, List.length_range] at h1
      rw [List.getElem_set]
      simp only [List.getElem_map, List.getElem_range]
      rw [Jn.lp, hx]
      by_cases e : k / 32 = i
      · rw [if_pos e, if_pos e, ← e]
      · rw [if_neg e, if_neg e]
  · have hl : ((cs.take k).map (·.page)).length = k := by simp; omega
    rw [List.take_succ_eq_append_getElem hk, he, List.map_append, List.set_append_right _ _ (by rw [hl]; simp)]
    rw [hl]
    have e : Jn.nl cs.length + k - (List.set ((List.range (Jn.nl cs.length)).map fun j => Jn.lp cs j k) (k / 32) (Pg.setN (Jn.lp cs (k / 32) k) (((k % 32 : Nat) : Int) * 2) 2 x.no)).length - k = 0 := by simp
    rw [e, show cs.length - k = (cs.length - (k + 1)) + 1 by omega, List.replicate_succ, List.set_cons_zero]
    simp
theorem run_make_laid (w : World) (f n : Nat) (hn : f + n ≤ 1000) : (Instr.makeSlice 86 (.int .i64 ((f : Int) + (n : Int))) (.int .i64 ((f : Int) + (n : Int)))).run Tryz.prog w = .ok (.slice (some ⟨w.heap.size, 0, none⟩) (f + n) (f + n)) (w.alloc (.cells (zeroRow (f + n)) 97)) := by
  have h := run_make_pages w (f + n) (by omega)
  rw [show ((f + n : Nat) : Int) = (f : Int) + (n : Int) by omega] at h
  exact h
theorem layout_any {w : World} (A : Option Addr) (c : Nat) (cs : List Chg) (hrow : ChAt w A [] cs) (hp : ∀ x ∈ cs, x.page.length = 64) (h1 : 1 ≤ cs.length) (h2 : cs.length ≤ 512) :
    Calls Tryz.prog 193 #[.slice A cs.length c] w fun e w' => ∃ lb, e = .returned (.slice (some ⟨lb, 0, none⟩) (Jn.nl cs.length + cs.length) (Jn.nl cs.length + cs.length)) ∧ RowsAt w' lb (Jn.layN cs) ∧ w.heap.size ≤ lb ∧ lb < w'.heap.size ∧ Below w.heap.size w w' := by
  have HROW := Lib.hid hrow
  have HP := Lib.hid hp
  have HS := Lib.hid (rowsAt_new w (Jn.nl cs.length + cs.length) 97)
  rw [← lyK_zero] at HS
  clear hrow hp
  obtain ⟨n, hn⟩ : ∃ n, cs.length = n := ⟨_, rfl⟩
  have HN := Lib.hid hn
  rw [hn] at h1 h2 HS ⊢
  clear hn
  have HLS := Lib.hid (lists_any n h1 (by omega))
  have hf0 : Jn.nl n ≤ 17 := by unfold Jn.nl; omega
  have HFL : Hid (∀ k, k < n → k / 32 < Jn.nl n) := Lib.hid (fun k hk => Jn.nl_lt hk)
  have HFN : Hid (Jn.nl cs.length = Jn.nl n) := Lib.hid (by rw [HN.out])
  generalize Jn.nl n = f at HLS HS hf0 HFL HFN ⊢
  have hmk := run_make_laid w f n (by omega)
  have HB1 : Hid (Below w.heap.size w (w.alloc (.cells (zeroRow (f + n)) 97))) := Lib.hid ((Below.refl _ _).alloc (Nat.le_refl _) _)
  have HLT1 : Hid (w.heap.size < (w.alloc (.cells (zeroRow (f + n)) 97)).heap.size) := Lib.hid (by simp)
  go_enter Tryz.func193, Tryz.ntmps193
  go_wp2_with (go_at_call 185; refine (HLS.out _).mono ?_; rintro e w' ⟨rfl, rfl⟩)
  clear hmk HLS
  generalize w.alloc (.cells (zeroRow (f + n)) 97) = w1 at HS HB1 HLT1 ⊢
  generalize hlb : w.heap.size = lb at HS HLT1 ⊢
  have HLB : Hid (w.heap.size ≤ lb) := Lib.hid (by omega)
  clear hlb
  go_loopw [17] (fun i wr => ∃ (k : Nat), k ≤ n ∧ i = .int .i64 k ∧ RowsAt wr lb (lyK cs k) ∧ lb < wr.heap.size ∧ Below w.heap.size w wr) (fun i _ => n - (intOf i).toNat)
  case atStart => exact ⟨0, Nat.zero_le _, rfl, HS.out, HLT1.out, HB1.out⟩
  case round =>
    obtain ⟨k, hk, rfl, htab, hltb, hbel⟩ := hrel
    have HT := Lib.hid htab
    have HL := Lib.hid hbel
    have HLT := Lib.hid hltb
    clear htab hbel hltb HS HB1 HLT1
    by_cases hlt : k < n
    · obtain ⟨x, hpk⟩ : ∃ x, cs[k]? = some x := ⟨_, List.getElem?_eq_getElem (by rw [HN.out]; exact hlt)⟩
      obtain ⟨b, off, rfl, hb, _, hc⟩ := (HROW.out.below HL.out) (by rw [HN.out]; omega)
      have HC := Lib.hid (hc k x hpk)
      have HPL := Lib.hid (HP.out x (List.mem_of_getElem? hpk))
      have HST := Lib.hid (lyK_step cs k x hpk)
      have HTL := Lib.hid (lyK_length cs k (by rw [HN.out]; exact hk))
      have hjf := HFL.out k hlt
      have HT0 : Hid ((lyK cs k)[k / 32]? = some (Jn.lp cs (k / 32) k)) := Lib.hid (lyK_num cs k _ (by rw [HFN.out]; exact hjf))
      have HL0 := Lib.hid (Jn.lp_length cs (k / 32) k)
      have hm32 := Nat.mod_lt k (show 0 < 32 by omega)
      have hq1 : Int.tdiv (k : Int) 32 = ((k / 32 : Nat) : Int) := by rw [Int.tdiv_eq_ediv_of_nonneg (by omega)]; omega
      have hq2 : Int.tmod (k : Int) 32 = ((k % 32 : Nat) : Int) := by rw [Int.tmod_eq_emod_of_nonneg (by omega)]; omega
      rw [HFN.out] at HST HTL
      generalize k / 32 = j at HST HT0 HL0 hq1 hjf
      generalize k % 32 = mm at HST hm32 hq2
      have HSET := Lib.hid (fun (W : World) => set_any (Jn.lp cs j k) ((mm : Int) * 2) 2 x.no W HL0.out (by omega) (by omega))
      have HPS := Lib.hid (Pg.setN_length (Jn.lp cs j k) ((mm : Int) * 2) 2 x.no HL0.out)
      have HQ1 := Lib.hid hq1
      have HQ2 := Lib.hid hq2
      clear hb hc hpk hq1 hq2
      generalize Jn.lp cs j k = p0 at HST HT0 HL0 HSET HPS
      generalize Pg.setN p0 ((mm : Int) * 2) 2 x.no = p1 at HST HSET HPS
      have hzc := zeroChg
      have HNB : Hid (wr.heap.size ≠ lb) := Lib.hid (by have := HLT.out; omega)
      go_wp2_with (first
        | ((with_reducible refine wpList_load_chg HC.out HPL.out rfl (.tmp 20) rfl ?_ ?_); (exact rfl))
        | ((with_reducible refine wpList_store_newchg HPL.out rfl (.tmp 6) (.tmp 21) rfl rfl ?_ chgZero_size ?_); (exact rfl); intro W2 hP hB2 hz2; have HT2 := Lib.hid ((HT.out.below hB2 HLT.out).block (w' := W2.drew) rfl); have HV2 := Lib.hid (RowAt.drew hP); have HL2 := Lib.hid ((HL.out.trans (hB2.mono HL.out.size)).drew); have HLT2 : Hid (lb < W2.drew.heap.size) := Lib.hid (Nat.lt_of_lt_of_le HLT.out hB2.size); have HV0 := Lib.hid (ChVar.no HV2.out); clear hP hB2 hz2))
      clear HT HL HLT HC
      generalize wr.heap.size = B at HV2 HV0 HNB ⊢
      have hq3 : IntKind.i64.wrap ((mm : Int) * 2) = (mm : Int) * 2 := IntWalk.i64_in _ (by omega)
      have hq4 : IntKind.i64.wrap (mm : Int) = (mm : Int) := IntWalk.i64_in _ (by omega)
      have hq0 : IntKind.i64.wrap (j : Int) = (j : Int) := IntWalk.i64_in _ (by omega)
      have hq1 := HQ1.out
      have hq2 := HQ2.out
      have hj0 : (0 : Int) ≤ (j : Int) := by omega
      have hn1 : (j : Int) < (f : Int) + (n : Int) := by omega
      have hn2 : j < f + n := by omega
      refine wp_region_noPanic ?_
      refine wp_region_held_drew (S := fun W => W.cell? ⟨B, 0, none⟩ = some (.int .i64 x.no)) (by kernel_rfl) HV0.out (fun hHeld => ?_)
      generalize W2.drew = W3 at HT2 HL2 HV2 HLT2 hHeld ⊢
      refine take_at (i := 0) (d := some 22) (v := .slice (some ⟨lb, 0, none⟩) (f + n) (f + n)) rfl rfl (by kernel_rfl) (by kernel_rfl) (by kernel_rfl) (fun _ _ _ h => h) (Or.inl ⟨by kernel_rfl, ?_⟩) hHeld ?_
      · intro w hSw; go_simp
      (try simp only [Act.put, puA, puB, puC])
      refine take_at (i := 1) (d := some 23) (v := .int .i64 (k : Int)) rfl rfl (by kernel_rfl) (by kernel_rfl) (by kernel_rfl) (fun _ _ _ h => h) (Or.inl ⟨by kernel_rfl, ?_⟩) hHeld ?_
      · intro w hSw; go_simp
      (try simp only [Act.put, puA, puB, puC])
      refine take_at (i := 2) (d := some 24) (v := .int .i64 (j : Int)) rfl rfl (by kernel_rfl) (by kernel_rfl) (by kernel_rfl) (fun _ _ _ h => h) (Or.inl ⟨by kernel_rfl, ?_⟩) hHeld ?_
      · intro w hSw; go_simp
      (try simp only [Act.put, puA, puB, puC])
      refine take_at (i := 3) (d := some 25) (v := .slice (some ⟨lb, 0, none⟩) (f + n) (f + n)) rfl rfl (by kernel_rfl) (by kernel_rfl) (by kernel_rfl) (fun _ _ _ h => h) (Or.inl ⟨by kernel_rfl, ?_⟩) hHeld ?_
      · intro w hSw; go_simp
      (try simp only [Act.put, puA, puB, puC])
      refine take_at (i := 4) (d := some 26) (v := .int .i64 (k : Int)) rfl rfl (by kernel_rfl) (by kernel_rfl) (by kernel_rfl) (fun _ _ _ h => h) (Or.inl ⟨by kernel_rfl, ?_⟩) hHeld ?_
      · intro w hSw; go_simp
      (try simp only [Act.put, puA, puB, puC])
      refine take_at (i := 5) (d := some 27) (v := .int .i64 (j : Int)) rfl rfl (by kernel_rfl) (by kernel_rfl) (by kernel_rfl) (fun _ _ _ h => h) (Or.inl ⟨by kernel_rfl, ?_⟩) hHeld ?_
      · intro w hSw; go_simp
      (try simp only [Act.put, puA, puB, puC])
      refine take_at (i := 6) (d := some 28) (v := .pointer (some ⟨lb, j * 64, none⟩)) rfl rfl (by kernel_rfl) (by kernel_rfl) (by kernel_rfl) (fun _ _ _ h => h) (Or.inl ⟨by kernel_rfl, ?_⟩) hHeld ?_
      · intro w hSw; go_simp
      (try simp only [Act.put, puA, puB, puC])
      refine take_at (i := 8) (d := some 30) (v := .int .i64 (k : Int)) rfl rfl (by kernel_rfl) (by kernel_rfl) (by kernel_rfl) (fun _ _ _ h => h) (Or.inl ⟨by kernel_rfl, ?_⟩) hHeld ?_
      · intro w hSw; go_simp
      (try simp only [Act.put, puA, puB, puC])
      refine take_at (i := 9) (d := some 31) (v := .int .i64 (mm : Int)) rfl rfl (by kernel_rfl) (by kernel_rfl) (by kernel_rfl) (fun _ _ _ h => h) (Or.inl ⟨by kernel_rfl, ?_⟩) hHeld ?_
      · intro w hSw; go_simp
      (try simp only [Act.put, puA, puB, puC])
      refine take_at (i := 10) (d := some 32) (v := .int .i64 ((mm : Int) * 2)) rfl rfl (by kernel_rfl) (by kernel_rfl) (by kernel_rfl) (fun _ _ _ h => h) (Or.inl ⟨by kernel_rfl, ?_⟩) hHeld ?_
      · intro w hSw; go_simp
      (try simp only [Act.put, puA, puB, puC])
      refine take_at (i := 11) (d := some 33) (v := .pointer (some ⟨B, 0, none⟩)) rfl rfl (by kernel_rfl) (by kernel_rfl) (by kernel_rfl) (fun _ _ _ h => h) (Or.inl ⟨by kernel_rfl, ?_⟩) hHeld ?_
      · intro w hSw; go_simp
      (try simp only [Act.put, puA, puB, puC])
      refine take_at (i := 12) (d := some 34) (v := .int .i64 x.no) rfl rfl (by kernel_rfl) (by kernel_rfl) (by kernel_rfl) (fun _ _ _ h => h) (Or.inl ⟨by kernel_rfl, ?_⟩) hHeld ?_
      · intro w hSw; go_simp
      (try simp only [Act.put, puA, puB, puC])
      refine anyH_load_row (i := 7) HT2.out j HT0.out (by kernel_rfl) rfl (by kernel_rfl) (.tmp 28) rfl rfl (some 29) rfl hHeld ?_
      (try simp only [Act.put, puA, puB, puC])
      refine wpAnyH_ready (rs := [13]) (by kernel_rfl) (by simp) ?_
      refine AllReadyH.cons rfl (fun K hK => ?_) AllReadyH.nil
      go_simp
      (go_at_call 96; refine (HSET.out _).mono ?_; rintro e W4 ⟨rfl, hB4⟩; have HT4 := Lib.hid (HT2.out.below hB4 HLT2.out); have HL4 := Lib.hid (HL2.out.trans (hB4.mono HL2.out.size)); have HV4 := Lib.hid (RowAt.below HV2.out hB4 (RowAt.lt HV2.out)); have HLT4 : Hid (lb < W4.heap.size) := Lib.hid (Nat.lt_of_lt_of_le HLT2.out hB4.size))
      (try go_wp2_with fail)
      refine hK.out _ _ (ChVar.no HV4.out) (fun hHeld => ?_)
      clear hK K
      (try simp only [Act.put, puA, puB, puC])
      refine take_at (i := 14) (d := some 36) (v := .pointer (some ⟨lb, j * 64, none⟩)) rfl rfl (by kernel_rfl) (by kernel_rfl) (by kernel_rfl) (fun _ _ _ h => h) (Or.inl ⟨by kernel_rfl, ?_⟩) hHeld ?_
      · intro w hSw; go_simp
      (try simp only [Act.put, puA, puB, puC])
      refine anyH_store_row (i := 15) HT4.out j (by rw [HTL.out, HN.out]; omega) HPS.out (by kernel_rfl) rfl (by kernel_rfl) (.tmp 36) (.tmp 35) rfl rfl rfl none rfl ((cell_setCells_far (W := W4) lb ⟨B, 0, none⟩ HNB.out _ _ _).trans hHeld) ?_
      (try simp only [Act.put])
      refine wpAnyH_done (by kernel_rfl) ?_ _
      refine NoPanic.normal ?_
      have HT5 := Lib.hid (HT4.out.put j (by rw [HTL.out, HN.out]; omega) p1 HPS.out)
      have HV5 := Lib.hid (RowAt.put_other HV4.out lb (j * 64) (byteVals p1) HNB.out)
      have HL5 : Hid (Below w.heap.size w (W4.setCells lb (j * 64) (byteVals p1))) := Lib.hid (below_setCells _ HLB.out _ _ _ HL4.out)
      have HLT5 : Hid (lb < (W4.setCells lb (j * 64) (byteVals p1)).heap.size) := Lib.hid (by rw [heap_setCells]; exact HLT4.out)
      clear hq0 hq1 hq2 hq3 hq4 HT4 HV4 HL4 HLT4 HT2 HV2 HL2 HLT2 HV0 hHeld hB4
      generalize W4.setCells lb (j * 64) (byteVals p1) = W5 at HT5 HV5 HL5 HLT5 ⊢
      have HVP := Lib.hid (ChVar.page HV5.out)
      have HI : Hid (f + k < ((lyK cs k).set j p1).length) := Lib.hid (by rw [List.length_set, HTL.out, HN.out]; omega)
      have hkn : (f : Int) + (k : Int) < (f : Int) + (n : Int) := by omega
      have hk0 : (0 : Int) ≤ (f : Int) + (k : Int) := by omega
      have hkt : ((f : Int) + (k : Int)).toNat = f + k := by omega
      go_wp2_with (first
        | ((with_reducible refine wpList_load_at HVP.out HPL.out rfl (.tmp 41) rfl ?_ ?_); (exact rfl))
        | ((with_reducible refine wpList_store_row HT5.out (f + k) HI.out HPL.out rfl (.tmp 43) (.tmp 42) rfl ?_ ?_ ?_); (exact rfl); (exact rfl)))
      have HT6 := Lib.hid (HT5.out.put (f + k) HI.out x.page HPL.out)
      rw [HST.out] at HT6
      have HL6 : Hid (Below w.heap.size w (W5.setCells lb ((f + k) * 64) (byteVals x.page))) := Lib.hid (below_setCells _ HLB.out _ _ _ HL5.out)
      have HLT6 : Hid (lb < (W5.setCells lb ((f + k) * 64) (byteVals x.page)).heap.size) := Lib.hid (by rw [heap_setCells]; exact HLT5.out)
      go_roundw
      case rel => exact ⟨k + 1, by omega, by go_num, HT6.out, HLT6.out, HL6.out⟩
      case measure => simp [intOf]; omega
    · obtain rfl : k = n := by omega
      have HA : Hid (lyK cs k = Jn.layN cs) := Lib.hid (by rw [← HN.out]; exact lyK_all cs)
      rw [HA.out] at HT
      go_wp2_with fail
      go_ret
      exact ⟨lb, rfl, HT.out, HLB.out, HLT.out, HL.out⟩
end

section
open Go.RowKit
open Dk (zeros zeros_length)
open Hd (Head rightB pageH)
open Jn (Chg)
def zeroTab (n : Nat) : Array Value := madeCells (Value.agg chgZero).cells (n * 65)
theorem info_chg : (Tryz.prog.info? 223).map (fun i => (i.zero, i.size, i.bytes)) = some (some (.agg chgZero), 65, 72) := by kernel_rfl
theorem zeroTab_size (n : Nat) : (zeroTab n).size = n * 65 := by unfold zeroTab madeCells; simp
end

section
open Go.RowKit
open Dk (zeros zeros_length)
open Hd (Head rightB pageH)
open Jn (Chg)
theorem chg_built (parts : List (Nat × Value)) : Tryz.prog.built 223 parts = Instr.fill (#[((0 : Nat), (1 : Nat)), (1, 64)][·]?) chgZero parts := by kernel_rfl
theorem fill_two (z : Array Value) (v : Value) (q : Array Value) (hv : v.cells = #[v]) (hq : q.size = 64) (hz : z.size = 65) :
    Instr.fill (#[((0 : Nat), (1 : Nat)), (1, 64)][·]?) z [(0, v), (1, .agg q)] = some (v :: q.toList).toArray := by
  have hc : (Value.agg q).cells = q := rfl
  obtain ⟨g1, g2⟩ := Great.foldl_set 0 [v] 0 z
  obtain ⟨k1, k2⟩ := Great.foldl_set 1 q.toList 0 (([v].zipIdx 0).foldl (fun cs (x : Value × Nat) => cs.setIfInBounds (0 + x.2) x.1) z)
  rw [g1, hz] at k1
  unfold Instr.fill
  show (if v.cells.size ≠ 1 || 0 + v.cells.size > z.size then none else _) = _
  rw [if_neg (by rw [hv, hz]; simp)]
  unfold Instr.fill
  show (if (Value.agg q).cells.size ≠ 64 || 1 + (Value.agg q).cells.size > _ then none else _) = _
  have hsz : (v.cells.zipIdx.foldl (fun cs (x : Value × Nat) => cs.setIfInBounds (0 + x.2) x.1) z).size = 65 := by
    rw [← Array.foldl_toList, Array.toList_zipIdx, hv]
    rw [← hz]; exact g1
  rw [if_neg (by rw [hc, hq, hsz]; simp)]
  unfold Instr.fill
  congr 1
  apply Array.ext_getElem?
  intro k
  have e : (Array.foldl (fun cs (x : Value × Nat) => cs.setIfInBounds (1 + x.2) x.1) (Array.foldl (fun cs (x : Value × Nat) => cs.setIfInBounds (0 + x.2) x.1) z v.cells.zipIdx) (Value.agg q).cells.zipIdx)
      = (q.toList.zipIdx 0).foldl (fun cs (x : Value × Nat) => cs.setIfInBounds (1 + x.2) x.1) (([v].zipIdx 0).foldl (fun cs (x : Value × Nat) => cs.setIfInBounds (0 + x.2) x.1) z) := by
    rw [hc, hv, ← Array.foldl_toList, Array.toList_zipIdx, ← Array.foldl_toList (xs := #[v].zipIdx), Array.toList_zipIdx]
  refine (congrArg (·[k]?) e).trans ?_
  have e2 : ((v :: q.toList).toArray)[k]? = (v :: q.toList)[k]? := by simp
  rw [e2]
  show ((q.toList.zipIdx 0).foldl _ _)[k]? = _
  rw [k2 k, g2 k, g1, hz, Array.length_toList, hq]
  by_cases h0 : k = 0
  · subst h0
    rw [if_neg (by omega), if_pos (by simp)]; rfl
  · obtain ⟨j, rfl⟩ : ∃ j, k = j + 1 := ⟨k - 1, by omega⟩
    rw [List.getElem?_cons_succ]
    by_cases hj : j < 64
    · rw [if_pos (by omega)]
      congr 1
    · rw [if_neg (by omega), if_neg (by simp), Array.getElem?_eq_none (by omega), List.getElem?_eq_none (by rw [Array.length_toList]; omega)]
theorem built_chg (v : Int) (p : List UInt8) (hp : p.length = 64) : Tryz.prog.built 223 [(0, .int .i64 v), (1, pageV p)] = some (chgVals ⟨v, p⟩).toArray := by
  rw [chg_built]
  unfold pageV
  rw [fill_two chgZero _ _ rfl (by rw [List.size_toArray, byteVals_length, hp]) chgZero_size]
  rfl
theorem wpList_buildChg {ops : Array Oper} {rest : List Oper} {o : Oper} {a : Act} {w : World} {Q : Exit → Act → World → Prop} (v : Int) (p : List UInt8) (hp : p.length = 64) (hg : o.guard = none) (x y : Operand) (ho : o.op = .build 223 #[(0, x), (1, y)]) (d : Option Tmp) (hd : o.dst = d) (hx : a.eval x = .int .i64 v) (hy : a.eval y = pageV p)
    (h : wpList Tryz.prog ops Q rest (a.put d (chgV ⟨v, p⟩)) w) : wpList Tryz.prog ops Q (o :: rest) a w :=
  wpList_buildTo hg 223 _ ho d hd (chgVals ⟨v, p⟩).toArray (by
    simp only [List.map_toArray, List.map_cons, List.map_nil, hx, hy]
    exact built_chg v p hp) h
theorem page_type : ∃ i z, Tryz.prog.info? 97 = some i ∧ i.zero = some z ∧ i.size = 64 ∧ i.bytes = 64 ∧ z.cells.size = 64 := by
  have h1 := page_info
  have h2 : (Tryz.prog.info? 97).map (·.bytes) = some 64 := by kernel_rfl
  have h3 : ((Tryz.prog.info? 97).bind (·.zero)).map (·.cells.size) = some 64 := by kernel_rfl
  cases h : Tryz.prog.info? 97 with
  | none => rw [h] at h1; cases h1
  | some i =>
    rw [h] at h1 h2 h3
    cases hz : i.zero with
    | none => simp [hz] at h3
    | some z =>
      simp [hz] at h1 h2 h3
      exact ⟨i, z, rfl, hz, h1, h2, h3⟩
theorem run_buildPage (w : World) (p : List UInt8) (hp : p.length = 64) : (Instr.buildSlice 86 1 #[(0, pageV p)]).run Tryz.prog w = .ok (.slice (some ⟨w.heap.size, 0, none⟩) 1 1) (w.alloc (.cells (byteVals p).toArray 97)) := by
  obtain ⟨i, z, hi, hz, hs, _, _⟩ := page_type
  refine run_buildSlice w 86 97 1 #[(0, pageV p)] _ i z Tryz.underlying86 hi hz (by rw [hs]; omega) (by rw [hs]; omega) ?_
  rw [hs]
  have h := Great.fill_whole (s := 64) (by omega) [pageV p] ((Array.range (1 * 64)).map (z.cells[· % z.cells.size]!)) (fun v hv => by
    rw [List.mem_singleton] at hv
    rw [hv]
    show (byteVals p).toArray.size = 64
    rw [List.size_toArray, byteVals_length, hp]) (by simp)
  refine h.trans ?_
  congr 1
  show ([pageV p].flatMap fun v => v.cells.toList).toArray = _
  simp [pageV, Value.cells]
theorem wp_buildPage {o : Oper} {a : Act} {w : World} {K : Act → World → Prop} {Q : Exit → Act → World → Prop} {p : List UInt8} (hp : p.length = 64) (x : Operand) (ho : o.op = .buildSlice 86 1 #[(0, x)]) (hx : a.eval x = pageV p)
    (h : K (a.put o.dst (.slice (some ⟨w.heap.size, 0, none⟩) 1 1)) (w.alloc (.cells (byteVals p).toArray 97))) : o.wp Tryz.prog a w K Q := by
  have hr := run_buildPage w p hp
  unfold Oper.wp execOp
  simp only [ho, List.map_toArray, List.map_cons, List.map_nil, hx, Sem.run_bind, hr, Result.andThen_ok]
  exact h
theorem wpList_buildPage {ops : Array Oper} {rest : List Oper} {o : Oper} {a : Act} {w : World} {Q : Exit → Act → World → Prop} {p : List UInt8} (hp : p.length = 64) (hgd : o.guard = none) (x : Operand) (ho : o.op = .buildSlice 86 1 #[(0, x)]) (hx : a.eval x = pageV p)
    (h : wpList Tryz.prog ops Q rest (a.put o.dst (.slice (some ⟨w.heap.size, 0, none⟩) 1 1)) (w.alloc (.cells (byteVals p).toArray 97))) : wpList Tryz.prog ops Q (o :: rest) a w :=
  wpList_plain hgd fun _ hK => wp_buildPage hp x ho hx (hK _ _ h)
theorem rows_one (w : World) (p : List UInt8) (hp : p.length = 64) (t : TypeId) : RowsAt (w.alloc (.cells (byteVals p).toArray t)) w.heap.size [p] where
  size := fun q hq => by rw [List.mem_singleton] at hq; rw [hq]; exact hp
  range := fun i q hq => by
    match i, hq with
    | 0, hq =>
      injection hq with hq
      rw [← hq]
      exact (pageAt_new w p t hp).range
  free := (pageAt_new w p t hp).free
theorem anyH_buildPage {ops : Array Oper} {Q : Exit → Act → World → Prop} {md : Region.Mode} {S : World → Prop} {i : Nat} {oi : Oper} {fuel : Nat} {listed : Array Bool} {a : Act} {w : World} {p : List UInt8} (hp : p.length = 64)
    (hr : Region.ready md ops listed = [i]) (hi : ops[i]? = some oi) (hw : Region.wanted oi (yielded ops a.tmps) = true) (x : Operand) (ho : oi.op = .buildSlice 86 1 #[(0, x)]) (hx : a.eval x = pageV p) (d : Option Tmp) (hd : oi.dst = d)
    (hS : S (w.alloc (.cells (byteVals p).toArray 97)))
    (hK : S (w.alloc (.cells (byteVals p).toArray 97)) → wpAnyH Tryz.prog md ops Q S fuel (listed.setIfInBounds i true) (a.put d (.slice (some ⟨w.heap.size, 0, none⟩) 1 1)) (w.alloc (.cells (byteVals p).toArray 97))) : wpAnyH Tryz.prog md ops Q S (fuel + 1) listed a w :=
  anyH_one hr hi hw fun _ hK' => wp_buildPage hp x ho hx (hK' _ _ hS (hd ▸ hK hS))
end

section
open Go.RowKit
open Dk (zeros zeros_length)
open Hd (Head rightB pageH)
open Jn (Chg)
end

section
open Go.RowKit
open Dk (zeros zeros_length)
open Hd (Head rightB pageH)
open Jn (Chg)
section
variable {ops : Array Oper} {S : World → Prop}
theorem yields_reg {oi : Oper} {a : Act} {b d g z : Nat} (hw : Region.wanted oi (yielded ops a.tmps) = true) (x : Operand) (ho : oi.op = .load 182 x) (hx : a.eval x = .pointer (some ⟨b, 0, none⟩)) (hS : ∀ w, S w → w.rangeAt b 0 (regVals d g z)) :
    YieldsIf Tryz.prog ops S oi (regV d g z) a :=
  yieldsIf_load_mid hw 182 x ho b 0 hx (regVals d g z) _ hS Tryz.underlying182 rfl reg_info
end
end
end Go.Proofs.YtmpfcgjjejlhdaaGreat
