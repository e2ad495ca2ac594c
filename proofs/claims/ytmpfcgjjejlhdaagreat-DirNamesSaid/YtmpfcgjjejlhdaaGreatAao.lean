/- Texts of the proof. -/
import Derived.Test.YtmpfcgjjejlhdaaGreatAan
import Derived.Test.YtmpfcgjjejlhdaaGreatAab
import Derived.Test.YtmpfcgjjejlhdaaGreatAal
import Derived.Test.YtmpfcgjjejlhdaaGreatAak
import Derived.Test.YtmpfcgjjejlhdaaGreatAam
import Derived.Maps.AppendAt
import Derived.Test.YtmpfcgjjejlhdaaGreatAaf
import Derived.Shelf.Strings.IndexAnyAll
import Derived.Laws.Runes
import Derived.Shelf.Small.Utf8
import Derived.WalkMore
import Derived.BigQuiet
set_option maxRecDepth 100000
set_option maxHeartbeats 16000000
namespace Go.Proofs.YtmpfcgjjejlhdaaGreat
section
open Go.ChangeShapes Go.WideShapes Go.ChangeAt Go.RowKit
open Dk (zeros zeros_length)
open Ii (Ino)
end

section
open Go.RowKit Go.Maps
open Dk (zeros zeros_length)
open Ii (Ino)
namespace Fs
end Fs
end

namespace Fs
open Dk (zeros zeros_length)
open Ii (Ino)
def Cov (L D : List Nat) : Prop := ∀ i ∈ L, i = 0 ∨ i = 42 ∨ i ∈ D
def Cv {α : Type} (m : M α) (V : View) (k : Nat) : Prop := ∃ D, D.length ≤ k ∧ Cov (m V).2.2 D
theorem Cov.nil (D : List Nat) : Cov [] D := fun _ h => by cases h
section
variable {α β : Type} {V : View}
theorem Cv.mono {m : M α} {k k' : Nat} (h : Cv m V k) (hk : k ≤ k') : Cv m V k' := by
  obtain ⟨D, h1, h2⟩ := h
  exact ⟨D, Nat.le_trans h1 hk, h2⟩
theorem cv_nil {m : M α} (h : (m V).2.2 = []) : Cv m V 0 := ⟨[], Nat.le_refl _, by rw [h]; exact Cov.nil _⟩
theorem cv_ret (a : α) : Cv (ret a) V 0 := cv_nil rfl
theorem cv_fail (e : Int) : Cv (fail e : M α) V 0 := cv_nil rfl
end
section
variable {n I : Int} {V : View}
end
def Z (p : List UInt8) (k : Nat) : Prop := p.length = 64 ∧ ∀ j, j < 2 * k → p[j]? = some 0
section
variable {n I : Int} (hd : 44 ≤ Pl.dataN I)
include hd
end
end Fs

namespace Fs
open Dk (zeros zeros_length)
open Ii (Ino)
theorem numN_zeros (k : Int) : numN zeros k = 0 := by
  unfold numN
  split
  · rename_i h
    have hk : k = ((k.toNat : Nat) : Int) := by omega
    have : ∀ j : Nat, j < 32 → Pg.getN zeros (2 * (j : Int)) 2 = 0 := by decide
    rw [hk]
    exact this k.toNat (by omega)
  · rfl
theorem numN_set (p : List UInt8) (hp : p.length = 64) (k : Nat) (hk : k < 32) (m : Int) (h0 : 0 ≤ m) (h1 : m < 65536) (j : Nat) (hj : j < 32) : numN (setNum p (k : Int) m) (j : Int) = if j = k then m else numN p (j : Int) := by
  have es : setNum p (k : Int) m = Pg.over p (2 * k) (Pg.bytesN 2 m) := by
    unfold setNum Pg.setN
    rw [if_pos (by omega), if_pos (Pg.num_mk (by omega) (by omega) (by omega) (by omega))]
    rw [show (2 * (k : Int)).toNat = 2 * k by omega]
    rfl
  have eg : ∀ q : List UInt8, numN q (j : Int) = Pg.numOf ((q.drop (2 * j)).take 2) := fun q => by
    unfold numN Pg.getN
    rw [if_pos (by omega), if_pos (Pg.num_mk (by omega) (by omega) (by omega) (by omega))]
    rw [show (2 * (j : Int)).toNat = 2 * j by omega]
    rfl
  rw [eg, es, eg]
  by_cases e : j = k
  · subst e
    have hb := Pg.over_back p (2 * j) (Pg.bytesN 2 m) (by rw [Pg.bytesN_length]; omega)
    rw [Pg.bytesN_length] at hb
    rw [if_pos rfl, hb, Pg.numOf_bytesN]
    exact Int.emod_eq_of_lt h0 h1
  · rw [if_neg e, Ii.over_apart p (2 * k) (Pg.bytesN 2 m) (2 * j) 2 (by rw [Pg.bytesN_length]; omega) (by rw [Pg.bytesN_length]; omega)]
def nm (x : Ino) (V : View) (j : Nat) : Int := if j < 4 then x.dir j else if x.e = 0 then 0 else numN (V x.e.toNat) ((j : Int) - 4)
structure Fl (n I : Int) (x : Ino) (V : View) (u : Nat) (P : Nat → List UInt8) : Prop where
  lo : 44 ≤ Pl.dataN I
  hi : n ≤ 512
  ub : Pl.dataN I + (u : Int) ≤ n
  f0 : x.f = 0
  bl : (V 42).length = 64
  bt : ∀ b, b < 512 → Bt.bit (V 42) b = decide (b < u)
  e : x.e = 0 ∨ (Pl.dataN I ≤ x.e ∧ x.e < Pl.dataN I + u)
  el : x.e ≠ 0 → (V x.e.toNat).length = 64
  num : ∀ j, j < 36 → nm x V j = 0 ∨ (Pl.dataN I ≤ nm x V j ∧ nm x V j < Pl.dataN I + u)
  ne : ∀ j, j < 36 → nm x V j ≠ 0 → nm x V j ≠ x.e
  inj : ∀ j k, j < 36 → k < 36 → j ≠ k → nm x V j ≠ 0 → nm x V j ≠ nm x V k
  pg : ∀ j, j < 36 → P j = if nm x V j = 0 then zeros else V (nm x V j).toNat
  pl : ∀ j, j < 36 → (P j).length = 64
  cnt : u = (if x.e = 0 then 0 else 1) + (List.range 36).countP fun j => decide (nm x V j ≠ 0)
variable {n I : Int} {x : Ino} {V : View} {u : Nat} {P : Nat → List UInt8}
theorem Fl.few (h : Fl n I x V u P) : u ≤ 37 := by
  have := h.cnt
  have h2 := count_le (fun j => decide (nm x V j ≠ 0)) 36
  split at this <;> omega
theorem Fl.isE (h : Fl n I x V u P) (he : x.e ≠ 0) : isData n I x.e := by
  have := h.ub
  rcases h.e with e | e
  · exact absurd e he
  · exact ⟨e.1, by omega⟩
theorem Fl.isN (h : Fl n I x V u P) (j : Nat) (hj : j < 36) (hn : nm x V j ≠ 0) : isData n I (nm x V j) := by
  have := h.ub
  rcases h.num j hj with e | e
  · exact absurd e hn
  · exact ⟨e.1, by omega⟩
theorem Fl.find (h : Fl n I x V u P) (j : Nat) (hj : j < 36) : findF n I x (j : Int) V = .ok (nm x V j) := by
  unfold findF
  by_cases h4 : j < 4
  · obtain ⟨e1, e2, e3, e4⟩ := Sp.page0 (i := (j : Int)) (by omega) (by omega)
    unfold placesN firstN nm
    rw [if_pos e1, if_pos e2, if_pos e1, if_pos e2, e4, if_pos h4]
    rfl
  · obtain ⟨e1, e2, e3, e4⟩ := Sp.page1 (i := (j : Int)) (by omega) (by omega)
    unfold placesN firstN nm
    rw [if_pos e1, if_neg (by rw [e2]; decide), if_pos e2, if_pos e1, if_neg (by rw [e2]; decide), if_pos e2, e4, if_neg h4]
    show (match dataF n I x.e V with | .ok p => Except.ok (numN p ((j : Int) - 4)) | .error e => .error e) = _
    unfold dataF
    by_cases he : x.e = 0
    · rw [if_pos he, if_pos he]
      simp only
      rw [numN_zeros]
    · rw [if_neg he, if_pos (h.isE he), if_neg he]
theorem Fl.page (h : Fl n I x V u P) (j : Nat) (hj : j < 36) : pageF n I x (j : Int) V = .ok (P j) := by
  unfold pageF
  rw [h.find j hj, h.pg j hj]
  show dataF n I (nm x V j) V = _
  unfold dataF
  by_cases hn : nm x V j = 0
  · rw [if_pos hn, if_pos hn]
  · rw [if_neg hn, if_pos (h.isN j hj hn), if_neg hn]
theorem first_is (bs : List UInt8) (u : Nat) (b : Int) (hl : bs.length = 64) (hb : b ≤ 512) (hu : (u : Int) < b) (h : ∀ k, k < 512 → Bt.bit bs k = decide (k < u)) : Bt.first bs 0 b = (u : Int) := by
  refine Bt.first_some bs 0 b u ?_
  have h1 : Bt.upto bs false 0 b u = [] := Bt.upto_low _ _ _ _ _ (fun i hi => by
    rw [Bt.among_in _ _ _ _ _ (by omega) (by omega), h i (by omega)]
    simp [hi])
  have h2 : Bt.upto bs false 0 b (u + 1) = [u] := by
    rw [Bt.upto_yes _ _ _ _ _ (by
      rw [Bt.among_in _ _ _ _ _ (by omega) (by omega), h u (by omega)]
      simp), h1]
    rfl
  rw [← h2]
  exact Bt.upto_pre _ _ _ _ _ (by rw [hl]; omega)
def taken (I : Int) (V : View) (u : Nat) : View := upd (upd V 42 (Bt.setB (V 42) (u : Int) true)) (Pl.dataN I + (u : Int)).toNat zeros
theorem take_is (hl : (V 42).length = 64) (hb : ∀ k, k < 512 → Bt.bit (V 42) k = decide (k < u)) (hlo : 44 ≤ Pl.dataN I) (hn : n ≤ 512) (hu : Pl.dataN I + (u : Int) < n) :
    takeM n I V = (.ok (Pl.dataN I + (u : Int)), taken I V u, [42, (Pl.dataN I + (u : Int)).toNat]) := by
  have hf := first_is (V 42) u (n - Pl.dataN I) hl (by omega) (by omega) hb
  have e1 : (see fun V => Bt.first (V 42) 0 (n - Pl.dataN I)) V = (.ok (u : Int), V, []) := by
    show (Except.ok (Bt.first (V 42) 0 (n - Pl.dataN I)), V, []) = _
    rw [hf]
  unfold takeM
  rw [andThen_ok e1, if_neg (by omega)]
  rfl
theorem taken_far (I : Int) (V : View) (u : Nat) (h : 44 ≤ Pl.dataN I) (i : Nat) (h1 : i ≠ 42) (h2 : (i : Int) ≠ Pl.dataN I + (u : Int)) : taken I V u i = V i := by
  unfold taken upd
  rw [if_neg (by omega), if_neg h1]
theorem taken_new (I : Int) (V : View) (u : Nat) : taken I V u (Pl.dataN I + (u : Int)).toNat = zeros := by
  unfold taken upd
  rw [if_pos rfl]
theorem taken_42 (I : Int) (V : View) (u : Nat) (h : 44 ≤ Pl.dataN I) : taken I V u 42 = Bt.setB (V 42) (u : Int) true := by
  unfold taken upd
  rw [if_neg (by omega), if_pos rfl]
theorem taken_bits (I : Int) (V : View) (u : Nat) (h : 44 ≤ Pl.dataN I) (hl : (V 42).length = 64) (hu : u < 512) (hb : ∀ k, k < 512 → Bt.bit (V 42) k = decide (k < u)) :
    (taken I V u 42).length = 64 ∧ ∀ k, k < 512 → Bt.bit (taken I V u 42) k = decide (k < u + 1) := by
  rw [taken_42 I V u h, Bt.setB_length, Bt.setB_nat _ _ _ (by rw [hl]; omega)]
  refine ⟨hl, fun k hk => ?_⟩
  rw [Bt.bit_set _ _ _ _ (by rw [hl]; omega), hb k hk]
  by_cases e : u = k
  · rw [if_pos e]; symm; exact decide_eq_true (by omega)
  · rw [if_neg e, decide_eq_decide]; omega
end Fs

namespace Fs
open Dk (zeros zeros_length)
open Ii (Ino)
variable {n I : Int} {x : Ino} {V : View} {u : Nat} {P : Nat → List UInt8}
structure Same (n I : Int) (x y : Ino) (V W : View) : Prop where
  k : y.k = x.k
  p : y.p = x.p
  u : y.u = x.u
  l : y.l = x.l
  s : y.s = x.s
  low : ∀ i : Nat, i ≠ 42 → (i : Int) < Pl.dataN I → W i = V i
theorem Same.refl (n I : Int) (x : Ino) (V : View) : Same n I x x V V := ⟨rfl, rfl, rfl, rfl, rfl, fun _ _ _ => rfl⟩
theorem Same.trans {y z : Ino} {W X : View} (a : Same n I x y V W) (b : Same n I y z W X) : Same n I x z V X :=
  ⟨b.k.trans a.k, b.p.trans a.p, b.u.trans a.u, b.l.trans a.l, b.s.trans a.s, fun i h1 h2 => (b.low i h1 h2).trans (a.low i h1 h2)⟩
theorem Same.taken (h : 44 ≤ Pl.dataN I) : Same n I x x V (taken I V u) := ⟨rfl, rfl, rfl, rfl, rfl, fun i h1 h2 => taken_far I V u h i h1 (by omega)⟩
theorem Same.upd {m : Int} (hm : isData n I m) (h : 44 ≤ Pl.dataN I) (q : List UInt8) : Same n I x x V (upd V m.toNat q) :=
  ⟨rfl, rfl, rfl, rfl, rfl, fun i h1 h2 => by
    unfold Fs.upd
    rw [if_neg (by have := hm.1; omega)]⟩
theorem setDir_dir (x : Ino) (k : Nat) (m : Int) (hk : k < 4) (j : Nat) (hj : j < 4) : (setDir x k m).dir j = if j = k then m else x.dir j := by
  have h1 : k = 0 ∨ k = 1 ∨ k = 2 ∨ k = 3 := by omega
  have h2 : j = 0 ∨ j = 1 ∨ j = 2 ∨ j = 3 := by omega
  rcases h1 with rfl | rfl | rfl | rfl <;> rcases h2 with rfl | rfl | rfl | rfl <;> rfl
theorem setDir_rest (x : Ino) (k : Nat) (m : Int) (hk : k < 4) : (setDir x k m).e = x.e ∧ (setDir x k m).f = x.f ∧ (setDir x k m).k = x.k ∧ (setDir x k m).p = x.p ∧ (setDir x k m).u = x.u ∧ (setDir x k m).l = x.l ∧ (setDir x k m).s = x.s := by
  have h1 : k = 0 ∨ k = 1 ∨ k = 2 ∨ k = 3 := by omega
  rcases h1 with rfl | rfl | rfl | rfl <;> exact ⟨rfl, rfl, rfl, rfl, rfl, rfl, rfl⟩
theorem Fl.grow (h : Fl n I x V u P) {y : Ino} {W : View} (j : Nat) (hj : j < 36) (h0 : nm x V j = 0) (hu : Pl.dataN I + (u : Int) < n)
    (he : y.e = x.e) (hf : y.f = x.f) (hW : ∀ i : Nat, i ≠ 42 → (i : Int) ≠ Pl.dataN I + (u : Int) → (i : Int) ≠ x.e → W i = V i) (hE : x.e ≠ 0 → (W x.e.toNat).length = 64)
    (h42 : (W 42).length = 64 ∧ ∀ b, b < 512 → Bt.bit (W 42) b = decide (b < u + 1)) (hz : W (Pl.dataN I + (u : Int)).toNat = zeros)
    (hn : ∀ k, k < 36 → nm y W k = if k = j then Pl.dataN I + (u : Int) else nm x V k) : Fl n I y W (u + 1) P := by
  have hlo := h.lo
  have hnew : Pl.dataN I + (u : Int) ≠ 0 := by omega
  have hold : ∀ k, k < 36 → nm x V k ≠ Pl.dataN I + (u : Int) := fun k hk e => by
    rcases h.num k hk with e2 | e2 <;> omega
  have heold : x.e ≠ Pl.dataN I + (u : Int) := by
    rcases h.e with e2 | e2 <;> omega
  refine ⟨h.lo, h.hi, by omega, by rw [hf]; exact h.f0, h42.1, h42.2, ?_, ?_, ?_, ?_, ?_, ?_, h.pl, ?_⟩
  · rw [he]
    rcases h.e with e2 | e2
    · exact Or.inl e2
    · exact Or.inr ⟨e2.1, by omega⟩
  · rw [he]; exact hE
  · intro k hk
    rw [hn k hk]
    split
    · right; constructor <;> omega
    · rcases h.num k hk with e2 | e2
      · exact Or.inl e2
      · exact Or.inr ⟨e2.1, by omega⟩
  · intro k hk
    rw [hn k hk, he]
    split
    · intro _ e; exact heold e.symm
    · exact h.ne k hk
  · intro a b ha hb hab
    rw [hn a ha, hn b hb]
    by_cases e1 : a = j
    · rw [if_pos e1, if_neg (by omega)]
      intro _ e
      exact hold b hb e.symm
    · rw [if_neg e1]
      by_cases e2 : b = j
      · rw [if_pos e2]
        intro _
        exact hold a ha
      · rw [if_neg e2]
        exact h.inj a b ha hb hab
  · intro k hk
    rw [hn k hk, h.pg k hk]
    by_cases e1 : k = j
    · rw [if_pos e1, if_neg hnew, e1, if_pos h0, hz]
    · rw [if_neg e1]
      by_cases e2 : nm x V k = 0
      · rw [if_pos e2, if_pos e2]
      · rw [if_neg e2, if_neg e2]
        have hd := h.isN k hk e2
        have := hd.1
        exact (hW _ (by omega) (by have := hold k hk; omega) (by have := h.ne k hk e2; rcases h.e with e3 | e3 <;> omega)).symm
  · have hc := count_more (fun k => decide (nm x V k ≠ 0)) (fun k => decide (k < 36 → nm y W k ≠ 0) && decide (k < 36) || (!decide (k < 36) && decide (nm x V k ≠ 0))) j (by simp [h0]) (by simp [hj, hn j hj, hnew]) (fun k hk => by
      by_cases hk36 : k < 36
      · simp [hk36, hn k hk36, hk]
      · simp [hk36]) 36 hj
    have hc2 : (List.range 36).countP (fun k => decide (nm y W k ≠ 0)) = (List.range 36).countP (fun k => decide (k < 36 → nm y W k ≠ 0) && decide (k < 36) || (!decide (k < 36) && decide (nm x V k ≠ 0))) := by
      apply List.countP_congr
      intro k hk
      rw [List.mem_range] at hk
      simp [hk]
    rw [hc2, hc, he, h.cnt]
    omega
theorem Fl.growE (h : Fl n I x V u P) (he : x.e = 0) (hu : Pl.dataN I + (u : Int) < n) : Fl n I { x with e := Pl.dataN I + (u : Int) } (taken I V u) (u + 1) P := by
  have hlo := h.lo
  have hnew : Pl.dataN I + (u : Int) ≠ 0 := by omega
  have hhi := h.hi
  have hb := taken_bits I V u h.lo h.bl (by omega) h.bt
  have hn : ∀ k, k < 36 → nm { x with e := Pl.dataN I + (u : Int) } (taken I V u) k = nm x V k := fun k _ => by
    unfold nm
    by_cases h4 : k < 4
    · rw [if_pos h4, if_pos h4]
      have : k = 0 ∨ k = 1 ∨ k = 2 ∨ k = 3 := by omega
      rcases this with rfl | rfl | rfl | rfl <;> rfl
    · rw [if_neg h4, if_neg h4, if_pos he, if_neg hnew]
      show numN (taken I V u (Pl.dataN I + (u : Int)).toNat) _ = 0
      rw [taken_new, numN_zeros]
  refine ⟨h.lo, h.hi, by omega, h.f0, hb.1, hb.2, Or.inr ⟨by show Pl.dataN I ≤ Pl.dataN I + (u : Int); omega, by show Pl.dataN I + (u : Int) < _; omega⟩, ?_, ?_, ?_, ?_, ?_, h.pl, ?_⟩
  · intro _
    show (taken I V u (Pl.dataN I + (u : Int)).toNat).length = 64
    rw [taken_new]
    exact zeros_length
  · intro k hk
    rw [hn k hk]
    rcases h.num k hk with e2 | e2
    · exact Or.inl e2
    · exact Or.inr ⟨e2.1, by omega⟩
  · intro k hk
    rw [hn k hk]
    intro h0
    show nm x V k ≠ Pl.dataN I + (u : Int)
    rcases h.num k hk with e2 | e2 <;> omega
  · intro a b ha hb hab
    rw [hn a ha, hn b hb]
    exact h.inj a b ha hb hab
  · intro k hk
    rw [hn k hk, h.pg k hk]
    by_cases e2 : nm x V k = 0
    · rw [if_pos e2, if_pos e2]
    · rw [if_neg e2, if_neg e2]
      have hd := h.isN k hk e2
      have := hd.1
      exact (taken_far I V u h.lo _ (by omega) (by rcases h.num k hk with e3 | e3 <;> omega)).symm
  · have hc2 : (List.range 36).countP (fun k => decide (nm { x with e := Pl.dataN I + (u : Int) } (taken I V u) k ≠ 0)) = (List.range 36).countP (fun k => decide (nm x V k ≠ 0)) := by
      apply List.countP_congr
      intro k hk
      rw [List.mem_range] at hk
      rw [hn k hk]
    rw [hc2]
    show u + 1 = (if Pl.dataN I + (u : Int) = 0 then 0 else 1) + _
    rw [if_neg hnew]
    have := h.cnt
    rw [if_pos he] at this
    omega
structure Lg (I : Int) (u u' c : Nat) (L : List Nat) : Prop where
  le : u ≤ u'
  few : u' ≤ u + c
  mem : ∀ i ∈ L, i = 42 ∨ (Pl.dataN I ≤ (i : Int) ∧ (i : Int) < Pl.dataN I + u')
theorem Lg.nil (I : Int) (u c : Nat) : Lg I u u c [] := ⟨Nat.le_refl _, Nat.le_add_right _ _, fun _ h => absurd h List.not_mem_nil⟩
theorem Lg.app {I : Int} {u u' u'' c c' : Nat} {L L' : List Nat} (h : Lg I u u' c L) (k : Lg I u' u'' c' L') : Lg I u u'' (c + c') (L ++ L') := by
  have h1 := h.le
  have h2 := h.few
  have k1 := k.le
  have k2 := k.few
  refine ⟨by omega, by omega, fun i hi => ?_⟩
  rcases List.mem_append.1 hi with hi | hi
  · rcases h.mem i hi with e | e
    · exact Or.inl e
    · exact Or.inr ⟨e.1, by omega⟩
  · exact k.mem i hi
theorem Lg.more {I : Int} {u u' c c' : Nat} {L : List Nat} (h : Lg I u u' c L) (hc : c ≤ c') : Lg I u u' c' L := ⟨h.le, by have := h.few; omega, h.mem⟩
theorem Lg.take {I : Int} (u : Nat) (h : 44 ≤ Pl.dataN I) : Lg I u (u + 1) 1 [42, (Pl.dataN I + (u : Int)).toNat] := by
  refine ⟨by omega, by omega, fun i hi => ?_⟩
  simp only [List.mem_cons, List.not_mem_nil, or_false] at hi
  rcases hi with rfl | rfl
  · exact Or.inl rfl
  · exact Or.inr (by omega)
theorem Lg.one {I m : Int} {u : Nat} (h : 44 ≤ Pl.dataN I) (hm : Pl.dataN I ≤ m ∧ m < Pl.dataN I + u) : Lg I u u 0 [m.toNat] := by
  refine ⟨by omega, by omega, fun i hi => ?_⟩
  obtain rfl := List.mem_singleton.1 hi
  exact Or.inr (by omega)
def Reached (n I : Int) (x : Ino) (V : View) (u : Nat) (P : Nat → List UInt8) (j : Nat) (o : Out (Ino × Int)) : Prop :=
  ∃ y m W L u', o = (.ok (y, m), W, L) ∧ Fl n I y W u' P ∧ nm y W j = m ∧ m ≠ 0 ∧ Same n I x y V W ∧ Lg I u u' 2 L ∧ L.length ≤ 5
theorem goR_one (h : Fl n I x V u P) (he : x.e ≠ 0) (j : Nat) (h4 : 4 ≤ j) (hj : j < 36) (hu : Pl.dataN I + (u : Int) < n) :
    ∃ m W L u', goR n I [(j : Int) - 4] x.e V = (.ok m, W, L) ∧ Fl n I x W u' P ∧ nm x W j = m ∧ m ≠ 0 ∧ Same n I x x V W ∧ Lg I u u' 1 L ∧ L.length ≤ 3 := by
  have hE := h.isE he
  have hlo := h.lo
  have hhi := h.hi
  have hnm : nm x V j = numN (V x.e.toNat) ((j : Int) - 4) := by
    unfold nm
    rw [if_neg (by omega), if_neg he]
  have e1 : (tell (dataF n I x.e)) V = (.ok (V x.e.toNat), V, []) := by
    show (dataF n I x.e V, V, []) = _
    unfold dataF
    rw [if_neg he, if_pos hE]
  have hgo : goR n I [(j : Int) - 4] x.e V = ((if numN (V x.e.toNat) ((j : Int) - 4) = 0 then andThen (takeM n I) fun t => andThen (wr x.e.toNat (setNum (V x.e.toNat) ((j : Int) - 4) t)) fun _ => goR n I [] t else goR n I [] (numN (V x.e.toNat) ((j : Int) - 4))) V) := by
    show andThen (tell (dataF n I x.e)) _ V = _
    rw [andThen_ok e1]
    simp only [List.nil_append]
  by_cases h0 : nm x V j = 0
  · have hk : (j : Int) - 4 = ((j - 4 : Nat) : Int) := by omega
    have ht := take_is (V := V) (u := u) h.bl h.bt h.lo h.hi hu
    have hb := taken_bits I V u h.lo h.bl (by omega) h.bt
    have hEu : x.e ≠ Pl.dataN I + (u : Int) := by rcases h.e with e2 | e2 <;> omega
    have hEl := h.el he
    refine ⟨Pl.dataN I + (u : Int), upd (taken I V u) x.e.toNat (setNum (V x.e.toNat) ((j : Int) - 4) (Pl.dataN I + (u : Int))), [42, (Pl.dataN I + (u : Int)).toNat] ++ [x.e.toNat], u + 1, ?_, ?_, ?_, by omega, ?_⟩
    · rw [hgo, if_pos (by rw [← hnm]; exact h0), andThen_ok ht]
      rfl
    · refine h.grow j hj h0 hu rfl rfl ?_ ?_ ?_ ?_ ?_
      · intro i h1 h2 h3
        unfold upd
        rw [if_neg (by have := hE.1; omega)]
        exact taken_far I V u h.lo i h1 h2
      · intro _
        unfold upd
        rw [if_pos rfl]
        exact setNum_length _ _ _ hEl
      · have : upd (taken I V u) x.e.toNat (setNum (V x.e.toNat) ((j : Int) - 4) (Pl.dataN I + (u : Int))) 42 = taken I V u 42 := by
          unfold upd
          rw [if_neg (by have := hE.1; omega)]
        rw [this]
        exact hb
      · have : upd (taken I V u) x.e.toNat (setNum (V x.e.toNat) ((j : Int) - 4) (Pl.dataN I + (u : Int))) (Pl.dataN I + (u : Int)).toNat = taken I V u (Pl.dataN I + (u : Int)).toNat := by
          unfold upd
          rw [if_neg (by have := hE.1; omega)]
        rw [this, taken_new]
      · intro k hk36
        unfold nm
        by_cases k4 : k < 4
        · rw [if_pos k4, if_pos k4, if_neg (by omega)]
        · rw [if_neg k4, if_neg k4, if_neg he, if_neg he]
          have : upd (taken I V u) x.e.toNat (setNum (V x.e.toNat) ((j : Int) - 4) (Pl.dataN I + (u : Int))) x.e.toNat = setNum (V x.e.toNat) ((j : Int) - 4) (Pl.dataN I + (u : Int)) := by
            unfold upd
            rw [if_pos rfl]
          rw [this, hk, show (k : Int) - 4 = ((k - 4 : Nat) : Int) by omega, numN_set _ hEl _ (by omega) _ (by omega) (by omega) _ (by omega)]
          by_cases e : k = j
          · rw [if_pos (by omega), if_pos e]
          · rw [if_neg (by omega), if_neg e]
    · unfold nm
      rw [if_neg (by omega), if_neg he]
      have : upd (taken I V u) x.e.toNat (setNum (V x.e.toNat) ((j : Int) - 4) (Pl.dataN I + (u : Int))) x.e.toNat = setNum (V x.e.toNat) ((j : Int) - 4) (Pl.dataN I + (u : Int)) := by
        unfold upd
        rw [if_pos rfl]
      rw [this, hk, numN_set _ hEl _ (by omega) _ (by omega) (by omega) _ (by omega), if_pos rfl]
    · refine ⟨(Same.taken h.lo).trans (Same.upd hE h.lo _), ?_, by simp⟩
      have hub := h.e
      exact (Lg.take u h.lo).app (Lg.one (m := x.e) h.lo (by omega))
  · refine ⟨nm x V j, V, [], u, ?_, h, rfl, h0, Same.refl .., Lg.nil .., Nat.zero_le _⟩
    rw [hgo, if_neg (by rw [← hnm]; exact h0), hnm]
    rfl
theorem Fl.reach (h : Fl n I x V u P) (j : Nat) (hj : j < 36) (hu : Pl.dataN I + (u : Int) + 2 ≤ n) : Reached n I x V u P j (reachM n I x (j : Int) V) := by
  have hlo := h.lo
  have hhi := h.hi
  have ht := take_is (V := V) (u := u) h.bl h.bt h.lo h.hi (by omega)
  have hb := taken_bits I V u h.lo h.bl (by omega) h.bt
  by_cases h4 : j < 4
  · obtain ⟨e1, e2, e3, e4⟩ := Sp.page0 (i := (j : Int)) (by omega) (by omega)
    have hf : firstN x (j : Int) = x.dir j := by
      unfold firstN
      rw [if_pos e1, if_pos e2, e4]
      rfl
    have hp : placesN (j : Int) = [] := by
      unfold placesN
      rw [if_pos e1, if_pos e2]
    have hnm : nm x V j = x.dir j := by unfold nm; rw [if_pos h4]
    unfold reachM
    rw [hf, hp]
    by_cases h0 : x.dir j = 0
    · rw [if_pos h0]
      have hs : setFirst x (j : Int) (Pl.dataN I + (u : Int)) = setDir x j (Pl.dataN I + (u : Int)) := by
        unfold setFirst
        rw [if_pos e2, e4]
        rfl
      obtain ⟨r1, r2, r3, r4, r5, r6, r7⟩ := setDir_rest x j (Pl.dataN I + (u : Int)) h4
      have hn : ∀ k, k < 36 → nm (setDir x j (Pl.dataN I + (u : Int))) (taken I V u) k = if k = j then Pl.dataN I + (u : Int) else nm x V k := fun k hk => by
        unfold nm
        by_cases k4 : k < 4
        · rw [if_pos k4, if_pos k4, setDir_dir x j _ h4 k k4]
        · rw [if_neg k4, if_neg k4, if_neg (show ¬ k = j by omega), r1]
          by_cases he : x.e = 0
          · rw [if_pos he, if_pos he]
          · rw [if_neg he, if_neg he, taken_far I V u h.lo _ (by have := (h.isE he).1; omega) (by have := (h.isE he).1; rcases h.e with e5 | e5 <;> omega)]
      refine ⟨setDir x j (Pl.dataN I + (u : Int)), Pl.dataN I + (u : Int), taken I V u, [42, (Pl.dataN I + (u : Int)).toNat], u + 1, ?_, ?_, ?_, by omega, ?_⟩
      · rw [andThen_ok ht]
        show (Except.ok (setFirst x (j : Int) (Pl.dataN I + (u : Int)), Pl.dataN I + (u : Int)), taken I V u, _) = _
        rw [hs]
        rfl
      · exact h.grow j hj (by rw [hnm]; exact h0) (by omega) r1 r2 (fun i h1 h2 _ => taken_far I V u h.lo i h1 h2) (fun he => by
          rw [taken_far I V u h.lo _ (by have := (h.isE he).1; omega) (by have := (h.isE he).1; rcases h.e with e5 | e5 <;> omega)]
          exact h.el he) hb (taken_new I V u) hn
      · rw [hn j hj, if_pos rfl]
      · have := Same.taken (n := n) (x := x) (V := V) (u := u) h.lo
        exact ⟨⟨r3, r4, r5, r6, r7, this.low⟩, (Lg.take u h.lo).more (by decide), by simp⟩
    · rw [if_neg h0]
      refine ⟨x, x.dir j, V, [], u, rfl, h, hnm, h0, Same.refl .., Lg.nil .., Nat.zero_le _⟩
  · obtain ⟨e1, e2, e3, e4⟩ := Sp.page1 (i := (j : Int)) (by omega) (by omega)
    have hf : firstN x (j : Int) = x.e := by
      unfold firstN
      rw [if_pos e1, if_neg (by rw [e2]; decide), if_pos e2]
    have hp : placesN (j : Int) = [(j : Int) - 4] := by
      unfold placesN
      rw [if_pos e1, if_neg (by rw [e2]; decide), if_pos e2, e4]
    unfold reachM
    rw [hf, hp]
    by_cases h0 : x.e = 0
    · rw [if_pos h0]
      have hE := h.growE h0 (by omega)
      have hs : setFirst x (j : Int) (Pl.dataN I + (u : Int)) = { x with e := Pl.dataN I + (u : Int) } := by
        unfold setFirst
        rw [if_neg (by rw [e2]; decide), if_pos e2]
      obtain ⟨m, W, L, u', g1, g2, g3, g4, g5, g6, g7⟩ := goR_one hE (by show Pl.dataN I + (u : Int) ≠ 0; omega) j (by omega) hj (by push_cast; omega)
      refine ⟨{ x with e := Pl.dataN I + (u : Int) }, m, W, [42, (Pl.dataN I + (u : Int)).toNat] ++ (L ++ []), u', ?_, g2, g3, g4, ?_⟩
      · rw [andThen_ok ht]
        have g1' : goR n I [(j : Int) - 4] (Pl.dataN I + (u : Int)) (taken I V u) = (.ok m, W, L) := g1
        rw [andThen_ok g1', hs]
        rfl
      · exact ⟨⟨g5.k, g5.p, g5.u, g5.l, g5.s, fun i h1 h2 => (g5.low i h1 h2).trans (taken_far I V u h.lo i h1 (by omega))⟩, (List.append_nil L).symm ▸ (Lg.take u h.lo).app g6, by simp; omega⟩
    · rw [if_neg h0]
      obtain ⟨m, W, L, u', g1, g2, g3, g4, g5, g6, g7⟩ := goR_one h h0 j (by omega) hj (by omega)
      refine ⟨x, m, W, L ++ [], u', ?_, g2, g3, g4, g5, by rw [List.append_nil]; exact g6.more (by decide), by rw [List.append_nil]; omega⟩
      rw [andThen_ok g1]
      rfl
theorem Fl.write (h : Fl n I x V u P) (j : Nat) (hj : j < 36) (h0 : nm x V j ≠ 0) (q : List UInt8) (hq : q.length = 64) : Fl n I x (upd V (nm x V j).toNat q) u (updP P j q) := by
  have hd := h.isN j hj h0
  have hlo := h.lo
  have hfar : ∀ i : Nat, i ≠ (nm x V j).toNat → upd V (nm x V j).toNat q i = V i := fun i hi => by
    unfold upd
    rw [if_neg hi]
  have hE : x.e ≠ 0 → upd V (nm x V j).toNat q x.e.toNat = V x.e.toNat := fun he => hfar _ (by
    have h1 := (h.isE he).1
    have h2 := hd.1
    have h3 := h.ne j hj h0
    omega)
  have hn : ∀ k, nm x (upd V (nm x V j).toNat q) k = nm x V k := fun k => by
    obtain ⟨m, hm⟩ : ∃ m, nm x V j = m := ⟨_, rfl⟩
    rw [hm] at hE ⊢
    unfold nm
    by_cases k4 : k < 4
    · rw [if_pos k4, if_pos k4]
    · rw [if_neg k4, if_neg k4]
      by_cases he : x.e = 0
      · rw [if_pos he, if_pos he]
      · rw [if_neg he, if_neg he, hE he]
  have h42 : upd V (nm x V j).toNat q 42 = V 42 := hfar 42 (by have := hd.1; omega)
  refine ⟨h.lo, h.hi, h.ub, h.f0, by rw [h42]; exact h.bl, by rw [h42]; exact h.bt, h.e, fun he => by rw [hE he]; exact h.el he, ?_, ?_, ?_, ?_, updP_length h.pl hq, ?_⟩
  · intro k hk; rw [hn k]; exact h.num k hk
  · intro k hk; rw [hn k]; exact h.ne k hk
  · intro a b ha hb hab; rw [hn a, hn b]; exact h.inj a b ha hb hab
  · intro k hk
    rw [hn k]
    unfold updP
    by_cases e : k = j
    · rw [if_pos e, e, if_neg h0]
      unfold upd
      rw [if_pos rfl]
    · rw [if_neg e, h.pg k hk]
      by_cases k0 : nm x V k = 0
      · rw [if_pos k0, if_pos k0]
      · rw [if_neg k0, if_neg k0, hfar _ (by
          have h1 := (h.isN k hk k0).1
          have h2 := hd.1
          have h3 := h.inj k j hk hj e k0
          omega)]
  · have : (fun k => decide (nm x (upd V (nm x V j).toNat q) k ≠ 0)) = fun k => decide (nm x V k ≠ 0) := by
      funext k
      rw [hn k]
    rw [this]
    exact h.cnt
end Fs

namespace Fs
open Dk (zeros zeros_length)
open Ii (Ino)
variable {n I : Int} {x : Ino} {V : View} {u : Nat} {P : Nat → List UInt8}
theorem Fl.ofS (h : Fl n I x V u P) (s : Int) : Fl n I { x with s := s } V u P :=
  ⟨h.lo, h.hi, h.ub, h.f0, h.bl, h.bt, h.e, h.el, h.num, h.ne, h.inj, h.pg, h.pl, h.cnt⟩
theorem Fl.flat_length (h : Fl n I x V u P) : (flat P 36).length = 2304 := Fs.flat_length P 36 h.pl
theorem Fl.read (h : Fl n I x V u P) : ∀ (c off : Nat), off + c ≤ 2304 → readG n I x V (pieces off c) = .ok (((flat P 36).drop off).take c) := by
  intro c
  induction c using Nat.strongRecOn with
  | ind c ih =>
    intro off hb
    by_cases h0 : c = 0
    · subst h0
      rw [pieces_zero, readG_nil, List.take_zero]
    · rw [pieces_step off c h0]
      obtain ⟨m, hm⟩ : ∃ m, min c (64 - off % 64) = m := ⟨_, rfl⟩
      rw [hm, readG_ok (c := ⟨off / 64, off % 64, m⟩) (h.page (off / 64) (by omega)), ih (c - m) (by omega) (off + m) (by omega)]
      have e1 : Pg.textN (P (off / 64)) ((off % 64 : Nat) : Int) (m : Int) = ((P (off / 64)).drop (off % 64)).take m := by
        unfold Pg.textN
        rw [if_pos (Pg.ins_mk (by omega) (by omega) (by omega))]
        rfl
      show Except.ok (Pg.textN (P (off / 64)) ((off % 64 : Nat) : Int) (m : Int) ++ _) = _
      rw [e1, flat_part h.pl (off / 64) (by omega) (off % 64) m (by omega), show 64 * (off / 64) + off % 64 = off by omega, take_drop_join, show m + (c - m) = c by omega]
theorem loop_room : ∀ (c : Nat) {x : Ino} {V : View} {u : Nat} {P : Nat → List UInt8}, Fl n I x V u P → ∀ (off : Nat) (t : List UInt8), t.length = c → off + c ≤ 2304 → Pl.dataN I + (u : Int) + 2 * ((pieces off t.length).length : Int) ≤ n →
    ∃ y W L u' P', wloop n I (pieces off t.length) x t V = (.ok y, W, L) ∧ Fl n I y W u' P' ∧ flat P' 36 = Pg.over (flat P 36) off t ∧ Same n I x y V W ∧ Lg I u u' (2 * (pieces off t.length).length) L ∧ L.length ≤ 6 * (pieces off t.length).length := by
  intro c
  induction c using Nat.strongRecOn with
  | ind c ih =>
    intro x V u P h off t hc hb hroom
    by_cases h0 : c = 0
    · obtain rfl : t = [] := List.eq_nil_of_length_eq_zero (by omega)
      exact ⟨x, V, [], u, P, rfl, h, (Pg.over_nil _ _).symm, Same.refl .., Lg.nil .., Nat.zero_le _⟩
    · obtain ⟨m, hm⟩ : ∃ m, min t.length (64 - off % 64) = m := ⟨_, rfl⟩
      have hps := pieces_step off t.length (by omega)
      rw [hm] at hps
      rw [hps, List.length_cons] at hroom
      obtain ⟨y, m1, W1, L1, u1, hr, g1, g2, g3, g4, g6, g7⟩ := h.reach (off / 64) (by omega) (by omega)
      have hd := g1.isN (off / 64) (by omega) (by rw [g2]; exact g3)
      rw [g2] at hd
      have e1 : (tell (dataF n I m1)) W1 = (.ok (P (off / 64)), W1, []) := by
        show (dataF n I m1 W1, W1, []) = _
        unfold dataF
        rw [if_neg g3, if_pos hd, g1.pg (off / 64) (by omega), g2, if_neg g3]
      have hq : Pg.setTextN (P (off / 64)) ((off % 64 : Nat) : Int) (t.take m) = Pg.over (P (off / 64)) (off % 64) (t.take m) := by
        unfold Pg.setTextN
        rw [if_pos (Pg.ins_mk (by omega) (by omega) (by rw [List.length_take]; omega))]
        rfl
      have hl := h.pl (off / 64) (by omega)
      have hql : (Pg.over (P (off / 64)) (off % 64) (t.take m)).length = 64 := by
        rw [Pg.over_length _ _ _ (by rw [hl, List.length_take]; omega), hl]
      have g5 := g1.write (off / 64) (by omega) (by rw [g2]; exact g3) _ hql
      rw [g2] at g5
      obtain ⟨y2, W2, L2, u2, P2, k1, k2, k3, k4, k5, k6⟩ := ih (c - m) (by omega) g5 (off + m) (t.drop m) (by rw [List.length_drop]; omega) (by omega) (by rw [List.length_drop]; have := g6.few; omega)
      rw [List.length_drop] at k1 k5 k6
      refine ⟨y2, W2, L1 ++ ([] ++ ([m1.toNat] ++ L2)), u2, P2, ?_, k2, ?_, (g4.trans (Same.upd hd h.lo _)).trans k4, ?_, by rw [hps]; simp; omega⟩
      · rw [pieces_step off t.length (by omega), hm]
        have e2 : andThen (tell (dataF n I m1)) (fun p => andThen (wr m1.toNat (Pg.setTextN p ((off % 64 : Nat) : Int) (t.take m))) fun _ => wloop n I (pieces (off + m) (t.length - m)) y (t.drop m)) W1 = (.ok y2, W2, [] ++ ([m1.toNat] ++ L2)) := by
          rw [andThen_ok e1]
          have e3 : andThen (wr m1.toNat (Pg.setTextN (P (off / 64)) ((off % 64 : Nat) : Int) (t.take m))) (fun _ => wloop n I (pieces (off + m) (t.length - m)) y (t.drop m)) W1 = (.ok y2, W2, [m1.toNat] ++ L2) := by
            rw [hq]
            have e4 : wr m1.toNat (Pg.over (P (off / 64)) (off % 64) (t.take m)) W1 = (.ok (), upd W1 m1.toNat (Pg.over (P (off / 64)) (off % 64) (t.take m)), [m1.toNat]) := rfl
            rw [andThen_ok e4, k1]
          rw [e3]
        show andThen (reachM n I x ((off / 64 : Nat) : Int)) (fun z => andThen (tell (dataF n I z.2)) fun p => andThen (wr z.2.toNat (Pg.setTextN p ((off % 64 : Nat) : Int) (t.take m))) fun _ => wloop n I (pieces (off + m) (t.length - m)) z.1 (t.drop m)) V = _
        rw [andThen_ok hr]
        exact congrArg (fun o : Out Ino => (o.1, o.2.1, L1 ++ o.2.2)) e2
      · have hfl := h.flat_length
        have hm2 : (t.take m).length = m := by rw [List.length_take]; omega
        rw [k3, flat_upd h.pl (off / 64) (by omega) (off % 64) (t.take m) (by omega), show 64 * (off / 64) + off % 64 = off by omega]
        have := over_then (flat P 36) off (t.take m) (t.drop m) (by rw [hm2, List.length_drop, hfl]; omega)
        rw [hm2, List.take_append_drop] at this
        exact this
      · rw [pieces_step off t.length (by omega), hm, List.length_cons]
        have hin := g1.num (off / 64) (by omega)
        rw [g2] at hin
        have := g6.app (Lg.app (c := 0) (Lg.nil I u1 0) ((Lg.one (m := m1) h.lo (by omega)).app k5))
        exact this.more (by omega)
theorem Fl.ext (h : Fl n I x V u P) {W : View} (hW : ∀ i : Nat, i = 42 ∨ (Pl.dataN I ≤ (i : Int) ∧ (i : Int) < n) → W i = V i) : Fl n I x W u P := by
  have hlo := h.lo
  have hE : x.e ≠ 0 → W x.e.toNat = V x.e.toNat := fun he => hW _ (Or.inr (by have := h.isE he; unfold isData at this; omega))
  have hn : ∀ k, nm x W k = nm x V k := fun k => by
    unfold nm
    by_cases k4 : k < 4
    · rw [if_pos k4, if_pos k4]
    · rw [if_neg k4, if_neg k4]
      by_cases he : x.e = 0
      · rw [if_pos he, if_pos he]
      · rw [if_neg he, if_neg he, hE he]
  have h42 := hW 42 (Or.inl rfl)
  refine ⟨h.lo, h.hi, h.ub, h.f0, by rw [h42]; exact h.bl, by rw [h42]; exact h.bt, h.e, fun he => by rw [hE he]; exact h.el he, ?_, ?_, ?_, ?_, h.pl, ?_⟩
  · intro k hk; rw [hn k]; exact h.num k hk
  · intro k hk; rw [hn k]; exact h.ne k hk
  · intro a b ha hb hab; rw [hn a, hn b]; exact h.inj a b ha hb hab
  · intro k hk
    rw [hn k, h.pg k hk]
    by_cases k0 : nm x V k = 0
    · rw [if_pos k0, if_pos k0]
    · rw [if_neg k0, if_neg k0, hW _ (Or.inr (by have := h.isN k hk k0; unfold isData at this; omega))]
  · have : (fun k => decide (nm x W k ≠ 0)) = fun k => decide (nm x V k ≠ 0) := by
      funext k
      rw [hn k]
    rw [this]
    exact h.cnt
theorem Fl.fits (h : Fl n I x V u P) (hk : 0 ≤ x.k ∧ x.k < 256) (hp : 0 ≤ x.p ∧ x.p < 65536) (hu : 0 ≤ x.u ∧ x.u < 65536) (hl : 0 ≤ x.l ∧ x.l < 65536) (hs : 0 ≤ x.s ∧ x.s < 4294967296) : Ii.fitsB x := by
  have hlo := h.lo
  have hub := h.ub
  have hhi := h.hi
  have hd : ∀ j, j < 4 → 0 ≤ x.dir j ∧ x.dir j < 65536 := fun j hj => by
    have h1 := h.num j (by omega)
    unfold nm at h1
    rw [if_pos hj] at h1
    omega
  have he : 0 ≤ x.e ∧ x.e < 65536 := by
    have := h.e
    omega
  exact ⟨hk, hp, hu, hl, hs, hd 0 (by decide), hd 1 (by decide), hd 2 (by decide), hd 3 (by decide), he, by rw [h.f0]; decide⟩
structure Rt (n I : Int) (V : View) (x : Ino) (u : Nat) (P : Nat → List UInt8) : Prop where
  fl : Fl n I x V u P
  len : (V 43).length = 64
  at1 : inoAt V 1 = x
  I1 : 1 ≤ I
  k : x.k = 2
  p : 0 ≤ x.p ∧ x.p < 65536
  u : 0 ≤ x.u ∧ x.u < 65536
  l : 0 ≤ x.l ∧ x.l < 65536
  s : 0 ≤ x.s ∧ x.s ≤ 2304
theorem Rt.ext (h : Rt n I V x u P) {W : View} (hW : ∀ i : Nat, 42 ≤ i → (i : Int) < n → W i = V i) : Rt n I W x u P := by
  have hlo := h.fl.lo
  have hub := h.fl.ub
  have h43 := hW 43 (by decide) (by omega)
  refine ⟨h.fl.ext fun i hi => hW i (by omega) (by omega), by rw [h43]; exact h.len, ?_, h.I1, h.k, h.p, h.u, h.l, h.s⟩
  rw [← h.at1]
  unfold inoAt
  rw [show tbl 1 = 43 by decide, h43]
theorem Rt.taken (h : Rt n I V x u P) : takenF I 1 V = .ok x := by
  unfold takenF
  rw [if_pos ⟨by decide, h.I1⟩, h.at1, if_neg (by rw [h.k]; decide)]
theorem setI_is {y : Ino} {W : View} (hl : (W 43).length = 64) (hf : Ii.fitsB y) (hk : y.k ≠ 0) :
    ∃ W' L, setI 1 y W = (.ok (), W', L) ∧ (∀ i, i ≠ 43 → W' i = W i) ∧ (W' 43).length = 64 ∧ inoAt W' 1 = y ∧ (∀ i ∈ L, i = 43) ∧ L.length ≤ 1 := by
  have hA : halfAt 1 = ((0 : Nat) : Int) := by decide
  have hT : tbl 1 = 43 := by decide
  have hg := Ii.get_put (W 43) 0 y hl (by decide) hf
  have hpl := Ii.putN_length (W 43) ((0 : Nat) : Int) y hl (by decide)
  have ha : ∀ W' : View, W' 43 = Ii.putN (W 43) ((0 : Nat) : Int) y → inoAt W' 1 = y := fun W' e => by
    unfold inoAt
    rw [hT, hA, e, hg, if_neg hk]
  unfold setI
  rw [hT, hA]
  by_cases e : Ii.putN (W 43) ((0 : Nat) : Int) y = W 43
  · rw [if_pos e]
    exact ⟨W, [], rfl, fun _ _ => rfl, hl, ha W e.symm, fun _ h => absurd h List.not_mem_nil, Nat.zero_le _⟩
  · rw [if_neg e]
    refine ⟨upd W 43 (Ii.putN (W 43) ((0 : Nat) : Int) y), [43], rfl, fun i hi => ?_, ?_, ha _ ?_, fun i hi => List.mem_singleton.1 hi, Nat.le_refl _⟩
    · unfold upd
      rw [if_neg hi]
    · unfold upd
      rw [if_pos rfl]
      exact hpl
    · unfold upd
      rw [if_pos rfl]
structure Lw (I : Int) (u u' c : Nat) (L : List Nat) : Prop where
  le : u ≤ u'
  few : u' ≤ u + c
  mem : ∀ i ∈ L, i = 42 ∨ i = 43 ∨ (Pl.dataN I ≤ (i : Int) ∧ (i : Int) < Pl.dataN I + u')
theorem Lw.app {I : Int} {u u' u'' c c' : Nat} {L L' : List Nat} (h : Lw I u u' c L) (k : Lw I u' u'' c' L') : Lw I u u'' (c + c') (L ++ L') := by
  have h1 := h.le
  have h2 := h.few
  have k1 := k.le
  have k2 := k.few
  refine ⟨by omega, by omega, fun i hi => ?_⟩
  rcases List.mem_append.1 hi with hi | hi
  · rcases h.mem i hi with e | e | e
    · exact Or.inl e
    · exact Or.inr (Or.inl e)
    · exact Or.inr (Or.inr ⟨e.1, by omega⟩)
  · exact k.mem i hi
theorem Lg.set {I : Int} {u u' c : Nat} {L L' : List Nat} (h : Lg I u u' c L) (h' : ∀ i ∈ L', i = 43) : Lw I u u' c ([] ++ (L ++ L')) := by
  refine ⟨h.le, h.few, fun i hi => ?_⟩
  rcases List.mem_append.1 hi with hi | hi
  · cases hi
  · rcases List.mem_append.1 hi with hi | hi
    · rcases h.mem i hi with e | e
      · exact Or.inl e
      · exact Or.inr (Or.inr e)
    · exact Or.inr (Or.inl (h' i hi))
theorem Lw.cov {I : Int} {u u' c : Nat} {L : List Nat} (h : Lw I u u' c L) (hd : 0 ≤ Pl.dataN I) : Cov L (43 :: (List.range u').map fun k => (Pl.dataN I).toNat + k) := by
  intro i hi
  rcases h.mem i hi with e | e | e
  · exact Or.inr (Or.inl e)
  · exact Or.inr (Or.inr (by rw [e]; exact List.mem_cons_self))
  · exact Or.inr (Or.inr (List.mem_cons_of_mem _ (List.mem_map.2 ⟨i - (Pl.dataN I).toNat, by rw [List.mem_range]; omega, by omega⟩)))
theorem Lw.cv {α : Type} {m : M α} {u u' c : Nat} (h : Lw I u u' c (m V).2.2) (hd : 0 ≤ Pl.dataN I) : Cv m V (u' + 1) := ⟨_, by simp, h.cov hd⟩
theorem Rt.write (h : Rt n I V x u P) (off : Nat) (t : List UInt8) (hroom : Pl.dataN I + (u : Int) + 2 * ((pieces off t.length).length : Int) ≤ n) (ht : t ≠ []) (hb : off + t.length ≤ 2304) :
    ∃ W L y u' P', writeM n I 1 off t V = (.ok (), W, L) ∧ Rt n I W y u' P' ∧ flat P' 36 = Pg.over (flat P 36) off t ∧ y.s = max x.s (off + t.length) ∧ Lw I u u' (2 * (pieces off t.length).length) L ∧ L.length ≤ 6 * (pieces off t.length).length + 1 := by
  have hlo := h.fl.lo
  obtain ⟨y, W, L, u', P', k1, k2, k3, k4, k5, k6⟩ := loop_room t.length (h.fl.ofS (max x.s (off + t.length))) off t rfl hb hroom
  have hs : y.s = max x.s (off + t.length) := k4.s
  have hk : y.k = x.k := k4.k
  have hp : y.p = x.p := k4.p
  have hu : y.u = x.u := k4.u
  have hl : y.l = x.l := k4.l
  have h43 : (W 43).length = 64 := by rw [k4.low 43 (by decide) (by omega)]; exact h.len
  have hsb : 0 ≤ y.s ∧ y.s ≤ 2304 := by rw [hs]; have := h.s; omega
  have hf := k2.fits (by rw [hk, h.k]; decide) (by rw [hp]; exact h.p) (by rw [hu]; exact h.u) (by rw [hl]; exact h.l) (by omega)
  obtain ⟨W', L', s1, s2, s3, s4, s5, s6⟩ := setI_is h43 hf (by rw [hk, h.k]; decide)
  refine ⟨W', [] ++ (L ++ L'), y, u', P', ?_, ⟨k2.ext fun i hi => s2 i (by omega), s3, s4, h.I1, by rw [hk, h.k], by rw [hp]; exact h.p, by rw [hu]; exact h.u, by rw [hl]; exact h.l, hsb⟩, k3, hs, k5.set s5, by simp; omega⟩
  unfold writeM
  have e1 : (tell (takenF I 1)) V = (.ok x, V, []) := by
    show (takenF I 1 V, V, []) = _
    rw [h.taken]
  rw [andThen_ok e1, if_neg (by omega), if_neg ht, if_neg (by omega)]
  have e2 : (off : Int).toNat = off := by omega
  rw [e2, andThen_ok k1, s1]
theorem Rt.read (h : Rt n I V x u P) (off c : Nat) (hb : (off : Int) + c ≤ x.s) : readF n I 1 off c V = .ok (((flat P 36).drop off).take c) := by
  have hs := h.s
  unfold readF
  rw [h.taken]
  show (if (off : Int) < 0 ∨ (c : Int) < 0 ∨ 67840 < (c : Int) then _ else _) = _
  rw [if_neg (by omega), show (off : Int).toNat = off by omega, show (min (c : Int) (x.s - off)).toNat = c by omega]
  exact h.fl.read c off (by omega)
end Fs

namespace Dm
open Ii (Ino)
open Fs (flat Rt View)
structure Bytes (E : List Ent) (F : List UInt8) : Prop where
  fits : 16 * E.length ≤ F.length
  at1 : ∀ i e, E[i]? = some e → Nm.at_ F i = Nm.slot e.1 e.2
theorem at_over (F b : List UInt8) (i : Nat) (hb : b.length = 16) (hi : 16 * i + 16 ≤ F.length) (k : Nat) : Nm.at_ (Pg.over F (16 * i) b) k = if k = i then b else Nm.at_ F k := by
  by_cases e : k = i
  · subst e
    rw [if_pos rfl]
    have := Pg.over_back F (16 * k) b (by omega)
    rw [hb] at this
    exact this
  · rw [if_neg e]
    apply List.ext_getElem?
    intro j
    rw [Nm.at_get, Nm.at_get]
    split
    · rw [Pg.over_at _ _ _ _ (by omega)]
      by_cases c : 16 * k + j < 16 * i
      · rw [if_pos c]
      · rw [if_neg c, if_neg (by omega)]
    · rfl
theorem Bytes.nil (F : List UInt8) : Bytes [] F := ⟨Nat.zero_le _, fun i e h => by cases h⟩
theorem Bytes.set {E : List Ent} {F : List UInt8} (h : Bytes E F) (i : Nat) (hi : i < E.length) (e : Ent) (hs : Nm.standB e.1 e.2 = true) : Bytes (E.set i e) (Pg.over F (16 * i) (Nm.slot e.1 e.2)) := by
  have hl := Nm.slot_length e.1 (Nm.stand_bd hs).2.2
  have hf := h.fits
  refine ⟨by rw [List.length_set, Pg.over_length _ _ _ (by omega)]; exact hf, fun k x hk => ?_⟩
  rw [at_over F _ i hl (by omega) k]
  rw [List.getElem?_set] at hk
  by_cases q : i = k
  · rw [if_pos q, if_pos hi] at hk
    injection hk with hk
    rw [if_pos q.symm, hk]
  · rw [if_neg q] at hk
    rw [if_neg (fun p => q p.symm)]
    exact h.at1 k x hk
theorem over_page (F : List UInt8) (a k : Nat) (b : List UInt8) (ha : a + 64 ≤ F.length) (hk : k + b.length ≤ 64) : Pg.over F a (Pg.over ((F.drop a).take 64) k b) = Pg.over F (a + k) b := by
  have hl : ((F.drop a).take 64).length = 64 := by rw [List.length_take, List.length_drop]; omega
  have hl2 : (Pg.over ((F.drop a).take 64) k b).length = 64 := by rw [Pg.over_length _ _ _ (by omega), hl]
  apply List.ext_getElem?
  intro j
  have r1 := Pg.over_at F a (Pg.over ((F.drop a).take 64) k b) j (by omega)
  have r2 := Pg.over_at F (a + k) b j (by omega)
  have r3 := Pg.over_at ((F.drop a).take 64) k b (j - a) (by omega)
  rw [hl2] at r1
  rw [r1, r2]
  by_cases c1 : j < a
  · rw [if_pos c1, if_pos (by omega)]
  · rw [if_neg c1]
    by_cases c2 : j < a + 64
    · rw [if_pos c2, r3]
      by_cases c3 : j - a < k
      · rw [if_pos c3, if_pos (by omega), List.getElem?_take, if_pos (by omega), List.getElem?_drop]
        congr 1
        omega
      · rw [if_neg c3, if_neg (show ¬ j < a + k by omega)]
        by_cases c4 : j - a < k + b.length
        · rw [if_pos c4, if_pos (by omega)]
          congr 1
          omega
        · rw [if_neg c4, if_neg (by omega), List.getElem?_take, if_pos (by omega), List.getElem?_drop]
          congr 1
          omega
    · rw [if_neg c2, if_neg (show ¬ j < a + k by omega), if_neg (by omega)]
theorem at_page (F : List UInt8) (j k : Nat) (hk : k < 4) : Nm.at_ ((F.drop (64 * j)).take 64) k = Nm.at_ F (4 * j + k) := by
  apply List.ext_getElem?
  intro i
  rw [Nm.at_get, Nm.at_get]
  split
  · rw [List.getElem?_take, if_pos (by omega), List.getElem?_drop]
    congr 1
    omega
  · rfl
def fresh (n : Int) (s : List UInt8) : List UInt8 := Nm.slot n s ++ Nm.zs 48
theorem fresh_length (n : Int) {s : List UInt8} (h : s.length ≤ 13) : (fresh n s).length = 64 := by
  unfold fresh
  rw [List.length_append, Nm.slot_length n h, Nm.zs_length]
theorem fresh_at (n : Int) {s : List UInt8} (h : s.length ≤ 13) (k : Nat) (hk : k < 4) : Nm.at_ (fresh n s) k = if k = 0 then Nm.slot n s else Nm.zs 16 := by
  have hl := Nm.slot_length n h
  unfold fresh Nm.at_
  have : k = 0 ∨ k = 1 ∨ k = 2 ∨ k = 3 := by omega
  rcases this with rfl | rfl | rfl | rfl
  · rw [if_pos rfl, Nat.mul_zero, List.drop_zero, ← hl]
    exact List.take_left' rfl
  · rw [if_neg (by decide), List.drop_append, hl, List.drop_of_length_le (by omega)]
    rfl
  · rw [if_neg (by decide), List.drop_append, hl, List.drop_of_length_le (by omega)]
    rfl
  · rw [if_neg (by decide), List.drop_append, hl, List.drop_of_length_le (by omega)]
    rfl
theorem Bytes.grow {E : List Ent} {F : List UInt8} (h : Bytes E F) (hf : 16 * E.length + 64 ≤ F.length) (n : Int) (s : List UInt8) (hs : Nm.standB n s = true) :
    Bytes (E ++ [(n, s), (0, []), (0, []), (0, [])]) (Pg.over F (16 * E.length) (fresh n s)) := by
  have hs13 := (Nm.stand_bd hs).2.2
  have hl := fresh_length n hs13
  refine ⟨by rw [List.length_append, Pg.over_length _ _ _ (by omega)]; simp; omega, fun k x hk => ?_⟩
  by_cases c : k < E.length
  · rw [List.getElem?_append_left c] at hk
    rw [← h.at1 k x hk]
    apply List.ext_getElem?
    intro j
    rw [Nm.at_get, Nm.at_get]
    split
    · rw [Pg.over_at _ _ _ _ (by omega), if_pos (by omega)]
    · rfl
  · rw [List.getElem?_append_right (by omega)] at hk
    obtain ⟨m, rfl⟩ : ∃ m, k = E.length + m := ⟨k - E.length, by omega⟩
    rw [Nat.add_sub_cancel_left] at hk
    have hm : m < 4 := by
      have := (List.getElem?_eq_some_iff.1 hk).1
      simpa using this
    have e1 : Nm.at_ (Pg.over F (16 * E.length) (fresh n s)) (E.length + m) = Nm.at_ (fresh n s) m := by
      apply List.ext_getElem?
      intro j
      rw [Nm.at_get, Nm.at_get]
      split
      · rw [Pg.over_at _ _ _ _ (by omega), if_neg (by omega), if_pos (by omega)]
        congr 1
        omega
      · rfl
    rw [e1, fresh_at n hs13 m hm]
    have : m = 0 ∨ m = 1 ∨ m = 2 ∨ m = 3 := by omega
    rcases this with rfl | rfl | rfl | rfl <;> (injection hk with hk; subst hk; rfl)
structure Dr (n I : Int) (V : View) (x : Ino) (u : Nat) (P : Nat → List UInt8) (E : List Ent) (H : Has) : Prop where
  rt : Rt n I V x u P
  size : x.s = 16 * (E.length : Int)
  ok : Ok E H
  bytes : Bytes E (flat P 36)
variable {n I : Int} {V : View} {x : Ino} {u : Nat} {P : Nat → List UInt8} {E : List Ent} {H : Has}
theorem Dr.ext (h : Dr n I V x u P E H) {W : View} (hW : ∀ i : Nat, 42 ≤ i → (i : Int) < n → W i = V i) : Dr n I W x u P E H := ⟨h.rt.ext hW, h.size, h.ok, h.bytes⟩
theorem Dr.few (h : Dr n I V x u P E H) : E.length ≤ 144 := by
  have := h.bytes.fits
  rw [h.rt.fl.flat_length] at this
  omega
theorem one_piece (off c : Nat) (h0 : 0 < c) (h : off % 64 + c ≤ 64) : (Fs.pieces off c).length = 1 := by
  rw [Fs.pieces_step off c (by omega), show min c (64 - off % 64) = c by omega, Nat.sub_self, Fs.pieces_zero]
  rfl
theorem Dr.setPage (h : Dr n I V x u P E H) (hroom : Pl.dataN I + (u : Int) + 2 ≤ n) (j k : Nat) (hk : k < 4) (hi : 4 * j + k < E.length) (m : Int) (s : List UInt8) (hs : Nm.standB m s = true) {H' : Has} (hok : Ok (E.set (4 * j + k) (m, s)) H') :
    ∃ W L y u' P', Fs.writeM n I 1 ((64 * j : Nat) : Int) (Nm.lay (((flat P 36).drop (64 * j)).take 64) k (Nm.slot m s)) V = (.ok (), W, L) ∧ Dr n I W y u' P' (E.set (4 * j + k) (m, s)) H' ∧ Fs.Lw I u u' 2 L ∧ L.length ≤ 7 := by
  have hl := Nm.slot_length m (Nm.stand_bd hs).2.2
  have hf := h.few
  have h4 := h.ok.four
  have hfl := h.rt.fl.flat_length
  have hpl : (((flat P 36).drop (64 * j)).take 64).length = 64 := by rw [List.length_take, List.length_drop, hfl]; omega
  have hll := Nm.lay_length hpl hk hl
  obtain ⟨W, L, y, u', P', k1, k2, k3, k4, k5, k6⟩ := h.rt.write (64 * j) (Nm.lay (((flat P 36).drop (64 * j)).take 64) k (Nm.slot m s)) (by rw [one_piece (64 * j) _ (by omega) (by omega)]; omega) (by intro q; rw [q] at hll; cases hll) (by omega)
  refine ⟨W, L, y, u', P', k1, ⟨k2, ?_, hok, ?_⟩, by rw [one_piece (64 * j) _ (by omega) (by omega)] at k5; exact k5, by rw [one_piece (64 * j) _ (by omega) (by omega)] at k6; exact k6⟩
  · rw [k4, h.size, List.length_set]
    omega
  · rw [k3]
    have := over_page (flat P 36) (64 * j) (16 * k) (Nm.slot m s) (by omega) (by omega)
    unfold Nm.lay
    rw [this, show 64 * j + 16 * k = 16 * (4 * j + k) by omega]
    exact h.bytes.set (4 * j + k) hi (m, s) hs
theorem Dr.grow (h : Dr n I V x u P E H) (hroom : Pl.dataN I + (u : Int) + 2 ≤ n) (hf : E.length + 4 ≤ 144) (m : Int) (s : List UInt8) (hs : Nm.standB m s = true) {H' : Has} (hok : Ok (E ++ [(m, s), (0, []), (0, []), (0, [])]) H') :
    ∃ W L y u' P', Fs.writeM n I 1 ((16 * E.length : Nat) : Int) (fresh m s) V = (.ok (), W, L) ∧ Dr n I W y u' P' (E ++ [(m, s), (0, []), (0, []), (0, [])]) H' ∧ Fs.Lw I u u' 2 L ∧ L.length ≤ 7 := by
  have hl := fresh_length m (Nm.stand_bd hs).2.2
  have hfl := h.rt.fl.flat_length
  obtain ⟨W, L, y, u', P', k1, k2, k3, k4, k5, k6⟩ := h.rt.write (16 * E.length) (fresh m s) (by rw [one_piece (16 * E.length) _ (by omega) (by have := h.ok.four; omega)]; omega) (by intro q; rw [q] at hl; cases hl) (by omega)
  refine ⟨W, L, y, u', P', k1, ⟨k2, ?_, hok, by rw [k3]; exact h.bytes.grow (by omega) m s hs⟩, by rw [one_piece (16 * E.length) _ (by omega) (by have := h.ok.four; omega)] at k5; exact k5, by rw [one_piece (16 * E.length) _ (by omega) (by have := h.ok.four; omega)] at k6; exact k6⟩
  rw [k4, h.size, List.length_append]
  simp
  omega
theorem add_few {E : List Ent} {H : Has} (o : Ok E H) (n : Int) (s : List UInt8) (K : Nat) (hE : E.length ≤ K + 3) (hH : H.length ≤ K) : (addE E n s).length ≤ K + 4 := by
  unfold addE
  cases hr : room E with
  | some i =>
    show (E.set i (n, s)).length ≤ _
    rw [List.length_set]
    omega
  | none =>
    have := o.full hr
    show (E ++ _).length ≤ _
    rw [List.length_append]
    simp
    omega
end Dm

namespace Dm
variable {E : List Ent} {H : Has}
def want (k : Int) (s : List UInt8) (H : Has) : Int := if k = 0 then (if Nm.chk s ≠ 0 then Nm.chk s else if (look H s).isSome then 17 else 0) else if (look H s).isSome then 0 else 2
def nextH (k : Int) (s : List UInt8) (n : Int) (H : Has) : Has := if k = 2 then delH H s else putH H s n
def nextE (k : Int) (s : List UInt8) (n : Int) (E : List Ent) : List Ent := if k = 0 then addE E n s else match spot E s with
  | some i => E.set i (if k = 2 then (0, []) else (n, s))
  | none => E
theorem want_add {s : List UInt8} (h : want 0 s H = 0) : Nm.chk s = 0 ∧ look H s = none := by
  unfold want at h
  rw [if_pos rfl] at h
  by_cases c : Nm.chk s = 0
  · rw [if_neg (by simp [c])] at h
    refine ⟨c, ?_⟩
    cases q : look H s with
    | none => rfl
    | some m => rw [q] at h; cases h
  · rw [if_pos c] at h
    exact absurd h c
theorem want_there {k : Int} {s : List UInt8} (hk : k ≠ 0) (h : want k s H = 0) : (look H s).isSome = true := by
  unfold want at h
  rw [if_neg hk] at h
  split at h
  · assumption
  · cases h
theorem Ok.there (h : Ok E H) {s : List UInt8} (hs : (look H s).isSome = true) : ∃ i, spot E s = some i ∧ i < E.length := by
  cases q : spot E s with
  | none =>
    rw [h.spot_none.1 q] at hs
    cases hs
  | some i =>
    obtain ⟨a, n, b, e1, e2, _⟩ := h.spot_some q
    exact ⟨i, rfl, by rw [e1, List.length_append, List.length_cons]; omega⟩
theorem next_ok (h : Ok E H) {k : Int} {s : List UInt8} {n : Int} (h0 : 1 ≤ n) (h1 : n ≤ 65535) (hw : want k s H = 0) : Ok (nextE k s n E) (nextH k s n H) := by
  unfold nextE nextH
  by_cases k0 : k = 0
  · subst k0
    obtain ⟨c, q⟩ := want_add hw
    rw [if_pos rfl, if_neg (by decide)]
    exact h.add (decide_eq_true ⟨h0, h1, c⟩) q
  · rw [if_neg k0]
    obtain ⟨i, hi, _⟩ := h.there (want_there k0 hw)
    rw [hi]
    show Ok (E.set i _) _
    by_cases k2 : k = 2
    · rw [if_pos k2, if_pos k2]
      exact h.rem hi
    · rw [if_neg k2, if_neg k2]
      exact h.set h0 h1 hi
theorem del_put (H : Has) (s : List UInt8) (n : Int) : delH (putH H s n) s = delH H s := by
  unfold putH
  split
  · unfold delH
    induction H with
    | nil => rfl
    | cons e H ih =>
      rw [List.map_cons, List.filter_cons, List.filter_cons]
      by_cases q : e.1 = s
      · rw [if_pos q, if_neg (by simp), if_neg (by simp [q])]
        by_cases c : (look H s).isSome = true
        · exact ih c
        · clear ih
          have hn : ∀ x ∈ H, x.1 ≠ s := look_none.1 (by
            cases q2 : look H s with
            | none => rfl
            | some m => rw [q2] at c; exact absurd rfl c)
          have : H.map (fun e => if e.1 = s then (s, n) else e) = H := by
            conv => rhs; rw [← List.map_id H]
            apply List.map_congr_left
            intro x hx
            rw [if_neg (hn x hx)]
            rfl
          rw [this]
      · rw [if_neg q, if_pos (by simp [q])]
        have hl : (look H s).isSome = true := by
          have := (by assumption : (look (e :: H) s).isSome = true)
          rwa [look_cons, if_neg q] at this
        rw [ih hl, if_pos (by simp [q])]
  · unfold delH
    rw [List.filter_append]
    simp
theorem nextH_few (hH : (H.map (·.1)).Nodup) (k : Int) (s : List UInt8) (n : Int) (K : Nat) (h : H.length ≤ K) : (nextH k s n H).length ≤ K + 1 := by
  unfold nextH
  split
  · have := del_length hH s
    omega
  · rw [put_length]
    split <;> omega
theorem nextE_few (o : Ok E H) (k : Int) (s : List UInt8) (n : Int) (K : Nat) (hE : E.length ≤ K + 3) (hH : H.length ≤ K) : (nextE k s n E).length ≤ K + 4 := by
  unfold nextE
  split
  · exact add_few o n s K hE hH
  · split
    · rw [List.length_set]; omega
    · omega
def seenH (L : List Ent) (j : Nat) : Has := (L.take j).map fun e => (e.2, 1)
theorem seen_step {L : List Ent} (hn : (L.map (·.2)).Nodup) {j : Nat} {e : Ent} (h : L[j]? = some e) : look (seenH L j) e.2 = none ∧ putH (seenH L j) e.2 1 = seenH L (j + 1) := by
  have hl : look (seenH L j) e.2 = none := by
    rw [look_none]
    intro x hx q
    obtain ⟨y, hy, rfl⟩ := List.mem_map.1 hx
    obtain ⟨hj, rfl⟩ := List.getElem?_eq_some_iff.1 h
    rw [← List.take_append_drop j L, List.map_append, List.nodup_append] at hn
    refine hn.2.2 y.2 (List.mem_map.2 ⟨y, hy, rfl⟩) (L[j]).2 (List.mem_map.2 ⟨L[j], ?_, rfl⟩) q
    rw [List.drop_eq_getElem_cons hj]
    exact List.mem_cons_self
  refine ⟨hl, ?_⟩
  rw [put_new 1 hl]
  unfold seenH
  rw [List.take_add_one, h, List.map_append]
  rfl
theorem seen_length (L : List Ent) (j : Nat) (h : j ≤ L.length) : (seenH L j).length = j := by
  unfold seenH
  rw [List.length_map, List.length_take]
  omega
end Dm

section
open Go.RowKit Go.Maps
open Dk (zeros zeros_length)
open Ii (Ino)
theorem bit_zeros (b : Nat) : Bt.bit zeros b = false := by
  have hz : zeros.getD (b / 8) 0 = 0 := by
    unfold zeros
    rw [List.getD_eq_getElem?_getD, List.getElem?_replicate]
    split <;> rfl
  unfold Bt.bit
  rw [hz]
  simp
theorem root_file {s : Sto} {n I : Int} (h : FmtS s n I) (hpl : Pl.rightB n I = true) : Fs.Fl n I rootI (nv s) 0 fun _ => zeros := by
  obtain ⟨r1, r2, r3, r4⟩ := Pl.right_yes hpl
  have hd := Pl.data_bd r1 r2
  have hdn : Pl.dataN I = 43 + (I + 1) / 2 := rfl
  have h42 : nv s 42 = zeros := by
    rw [h.pg 42 (by omega) (by decide)]
    rfl
  have hn : ∀ j, j < 36 → Fs.nm rootI (nv s) j = 0 := fun j _ => by
    unfold Fs.nm
    by_cases h4 : j < 4
    · rw [if_pos h4]
      have : j = 0 ∨ j = 1 ∨ j = 2 ∨ j = 3 := by omega
      rcases this with rfl | rfl | rfl | rfl <;> rfl
    · rw [if_neg h4, if_pos (show rootI.e = 0 from rfl)]
  refine ⟨by omega, by omega, by omega, rfl, by rw [h42]; exact zeros_length, ?_, Or.inl rfl, fun q => absurd rfl q, fun j hj => Or.inl (hn j hj), fun j hj q => absurd (hn j hj) q, fun a b ha _ _ q => absurd (hn a ha) q, fun j hj => by rw [if_pos (hn j hj)], fun _ _ => zeros_length, ?_⟩
  · intro b hb
    rw [h42]
    rw [bit_zeros b]
    simp
  · have : (List.range 36).countP (fun j => decide (Fs.nm rootI (nv s) j ≠ 0)) = 0 := by
      rw [List.countP_eq_zero]
      intro j hj
      rw [List.mem_range] at hj
      simp [hn j hj]
    rw [this]
    rfl
theorem root_dir {s : Sto} {n I : Int} (h : FmtS s n I) (hpl : Pl.rightB n I = true) : Dm.Dr n I (nv s) rootI 0 (fun _ => zeros) [] [] := by
  obtain ⟨r1, r2, r3, r4⟩ := Pl.right_yes hpl
  have hd := Pl.data_bd r1 r2
  have hdn : Pl.dataN I = 43 + (I + 1) / 2 := rfl
  have h43 : nv s 43 = rootP := by
    rw [h.pg 43 (by omega) (by decide)]
    rfl
  have hat : Fs.inoAt (nv s) 1 = rootI := by
    rw [h.inode hpl 1 (by decide) (by omega), if_pos rfl]
  exact ⟨⟨root_file h hpl, by rw [h43]; exact rootP_length, hat, by omega, rfl, by decide, by decide, by decide, by decide⟩, rfl, Dm.Ok.nil, Dm.Bytes.nil _⟩
theorem Dm.Dr.out {n I : Int} {V W : Fs.View} {x : Ino} {u : Nat} {P : Nat → List UInt8} {E : List Dm.Ent} {H : Dm.Has} (h : Dm.Dr n I V x u P E H) (hW : ∀ i, Out n i → W i = V i) : Dm.Dr n I W x u P E H :=
  h.ext fun i h1 h2 => hW i ⟨h2, Or.inr (by omega)⟩
end

section
open Go.RowKit Go.Maps
open Dk (zeros zeros_length)
open Ii (Ino)
end

namespace Fs
open Dk (zeros zeros_length)
open Ii (Ino)
def Frame {α : Type} (m : M α) : Prop := ∀ V j, j ∉ (m V).2.2 → (m V).2.1 j = V j
section
variable {n I : Int} (hpl : Pl.rightB n I = true)
include hpl
end
section
variable {n I : Int} (hpl : Pl.rightB n I = true)
include hpl
end
end Fs

namespace Fs
open Dk (zeros zeros_length)
open Ii (Ino)
section
variable {n I : Int} (hpl : Pl.rightB n I = true)
include hpl
end
section
variable {n I : Int} (hpl : Pl.rightB n I = true)
include hpl
end
end Fs
section
open Dk (zeros zeros_length)
open Ii (Ino)
theorem cntU_cov (N : Nat) {L D : List Nat} (h : Fs.Cov L D) : Fs.cntU (noPgs N) L ≤ D.length + 2 := by
  refine Nat.le_trans ?_ (cntU_le N (0 :: 42 :: D))
  unfold Fs.cntU
  apply List.countP_mono_left
  intro i _ hi
  simp only [List.contains_eq_mem, Bool.or_eq_true, decide_eq_true_eq, List.mem_cons] at hi ⊢
  rcases hi with hi | hi
  · exact Or.inl hi
  · exact Or.inr (h i hi)
theorem room_step {α : Type} {s : Sto} {n I : Int} (v : Vs s n I) (hi : Idle s) {m : Fs.M α} {er : Int} (h : Fails s m er) (hc : Fs.Cv m (nv s) 34) : ∃ V L, m (nv s) = (.error er, V, L) := by
  rcases h with h | ⟨_, h2⟩
  · exact h
  · exfalso
    obtain ⟨D, h3, h4⟩ := hc
    rw [hi, v.r] at h2
    have := cntU_cov s.dk.last.length h4
    omega
end

section
open Go.RowKit Go.Maps
open Dk (zeros zeros_length)
open Ii (Ino)
namespace Fs
end Fs
namespace Fs
end Fs
end

section
open Dk (zeros zeros_length)
open Ii (Ino)
namespace Fs
section
variable {n I : Int} (hpl : Pl.rightB n I = true)
include hpl
end
end Fs
section
variable {α : Type} {s u : Sto} {n I : Int} {k k' : Nat} {m : Fs.M α}
end
section
variable {n I : Int} {fl : Bool} {os : List Fop} {V0 U : Fs.View} {k : Nat} {o : Fop}
end
end

namespace Jn
open Go.Proofs.YtmpfcgjjejlhdaaGreat.Pg (getN setN numOf bytesN)
open Go.Proofs.YtmpfcgjjejlhdaaGreat.Hd (Head pageH readH wholeB rightB nextN)
theorem commitC {a z : Nat} {s : Dk.St} {cs : List Chg} {q : Int} (h : Cl s) (hlim : s.lim = false) (hm : May a z s.last.length cs) (hq0 : 0 ≤ q) (hq1 : q < 4294967290) (hq : s.last.getD a [] = pageH (quietH q)) :
    (runs s (steps a q cs)).2 = 0 ∧ Cl (runs s (steps a q cs)).1 ∧ Quiet a z (q + 2) (runs s (steps a q cs)).1.last (upd s.last cs) ∧ (runs s (steps a q cs)).1.last.getD a [] = pageH (quietH (q + 2)) ∧ (runs s (steps a q cs)).1.lim = s.lim := by
  have hfit := hm.fit
  have hreg := hm.reg
  have hin : ∀ i, (a ≤ i ∧ i < a + z) → ∀ c ∈ cs, c.no.toNat ≠ i := fun i hi c hc => by have := hm.out c hc; omega
  have hlm : ∀ c ∈ layAt (a + 1) (layN cs), a + 1 ≤ c.no.toNat ∧ c.no.toNat < a + z := fun c hc => by
    have := layAt_mem _ _ _ hc
    rw [layN_length] at this
    omega
  have hlay : ∀ i, i < a + 1 ∨ a + z ≤ i → (upd s.last (layAt (a + 1) (layN cs))).getD i [] = s.last.getD i [] := fun i hi => upd_other _ _ _ (fun c hc => by have := hlm c hc; omega)
  have hlaid : ∀ i, i < nl cs.length + cs.length → (upd s.last (layAt (a + 1) (layN cs))).getD (a + 1 + i) [] = (layN cs).getD i [] := fun i hi => upd_layAt _ _ _ _ (by rw [layN_length]; exact hi) (by rw [layN_length]; omega)
  have hl1 : (upd s.last (layAt (a + 1) (layN cs))).length = s.last.length := upd_length _ _
  generalize hM1 : upd s.last (layAt (a + 1) (layN cs)) = M1 at hlay hlaid hl1
  -- behind the Live head
  have hl2 : (upd M1 [⟨(a : Int), pageH (liveH (q + 1) cs)⟩]).length = s.last.length := by rw [upd_length]; exact hl1
  have live2 : LiveD a z (q + 1) cs (upd M1 [⟨(a : Int), pageH (liveH (q + 1) cs)⟩]) (upd s.last cs) := by
    refine ⟨by rw [hl2, upd_length], ⟨q + 1, by omega, by omega, upd_one_at (by omega) _⟩, fun i hi => ?_, fun i hi hc => ?_⟩
    · rw [upd_one_other (by omega)]; exact hlaid i hi
    · rw [upd_one_other (by omega), hlay i (by omega), upd_other _ _ _ hc]
  generalize hM2 : upd M1 [⟨(a : Int), pageH (liveH (q + 1) cs)⟩] = M2 at hl2 live2
  have same3 : Same a z (upd M2 cs) (upd s.last cs) := fun i hi => by
    by_cases hc : ∃ c ∈ cs, c.no.toNat = i
    · exact upd_in cs _ _ i hl2 hc
    · have hc' : ∀ c ∈ cs, c.no.toNat ≠ i := fun x hx e => hc ⟨x, hx, e⟩
      rw [upd_other _ _ _ hc']
      exact live2.same i hi hc'
  have live3 : LiveD a z (q + 1) cs (upd M2 cs) (upd s.last cs) := by
    obtain ⟨p, p0, p1, hp⟩ := live2.head
    exact ⟨by rw [upd_length, upd_length]; exact hl2, ⟨p, p0, p1, by rw [upd_other _ _ _ (hin a (by omega))]; exact hp⟩, fun i hi => by rw [upd_other _ _ _ (hin _ (by omega))]; exact live2.laid i hi, fun i hi _ => same3 i hi⟩
  have head3 : (upd M2 cs).getD a [] = pageH (liveH (q + 1) cs) := by
    rw [upd_other _ _ _ (hin a (by omega)), ← hM2, upd_one_at (by omega)]
  have hl3 : (upd M2 cs).length = s.last.length := by rw [upd_length]; exact hl2
  rcases runs_spec (steps a q cs) s h (fun l hl => by
      unfold steps at hl
      simp only [List.mem_cons, List.not_mem_nil, or_false] at hl
      rcases hl with rfl | rfl | rfl | rfl
      · exact layAt_val (layN_pages fun c hc => (hm.val c hc).2) (by rw [layN_length]; omega)
      · exact val_one (by omega) _
      · exact hm.val
      · exact val_one (by omega) _) with ⟨a1, a2, a3, a4⟩ | ⟨a1, a2, a3, j, hj, a4⟩
  · have e4 : updAll s.last (steps a q cs) = upd (upd M2 cs) [⟨(a : Int), pageH (quietH (q + 2))⟩] := by rw [← hM2, ← hM1]; rfl
    rw [e4] at a4
    have hh : (runs s (steps a q cs)).1.last.getD a [] = pageH (quietH (q + 2)) := by rw [a4, upd_one_at (by omega)]
    refine ⟨a1, a2, ⟨by rw [a4, upd_length, upd_length, upd_length]; exact hl2, ?_, ?_, ?_⟩, hh, a3⟩
    · rw [hh]; exact page_low (by show 0 ≤ q + 2; omega) (by show q + 2 < _; omega) (Int.le_refl _)
    · rw [hh]; exact quietH_quiet (by omega) (by omega)
    · rw [a4]
      intro i hi
      rw [upd_one_other (by omega)]
      exact same3 i hi
  · rw [hlim] at a2; cases a2
end Jn
section
open Go.RowKit Go.Maps
open Dk (zeros zeros_length)
open Hd (Head rightB pageH)
open Jn (Chg quietH liveH Cl Quiet LiveD May Same upd)
theorem sync_calm {s : Sto} (h : Sound s) (hlim : s.dk.lim = false) (hq : s.q < 4294967290) :
    ssyncE s = 0 ∧ Sound (ssync s) ∧ Same s.a s.z (ssync s).dk.last (upd s.dk.last (chgs s.group)) ∧ (ssync s).dk.last.length = s.dk.last.length ∧ (ssync s).q ≤ s.q + 2 ∧ (ssync s).dk.lim = s.dk.lim := by
  have hnn : ¬ s.over = true := by rw [h.up]; simp
  by_cases hz : cntO s.group = 0
  · have hs : ssync s = s := by unfold ssync; rw [if_neg hnn, if_pos hz]
    have hcs : chgs s.group = [] := List.eq_nil_of_length_eq_zero (by rw [chgs_length]; exact hz)
    refine ⟨by unfold ssyncE; rw [if_neg hnn, if_pos hz], by rw [hs]; exact h, ?_, by rw [hs], by rw [hs]; omega, by rw [hs]⟩
    rw [hs, hcs]
    exact fun _ _ => rfl
  · have hm := h.may hz
    have hE : ssyncE s = (srun s).2 := by unfold ssyncE; rw [if_neg hnn, if_neg hz]
    have hS : ssync s = if (srun s).2 = 0 then { scommit s with group := noPgs s.dk.last.length } else scommit s := by unfold ssync; rw [if_neg hnn, if_neg hz]
    have hC : (srun s).1.last.length = s.dk.last.length := srun_len s
    have hok := scommit_ok h.ok
    have hcl := sclear_ok hok (n := s.dk.last.length) hC.symm
    obtain ⟨e1, e2, e3, e4, e5⟩ := Jn.commitC h.cl hlim hm h.q0 hq h.head
    rw [show Jn.runs s.dk (Jn.steps s.a s.q (chgs s.group)) = srun s from rfl] at e1 e2 e3 e4 e5
    rw [hE, hS, if_pos e1]
    have hq0 := h.q0
    refine ⟨e1, ⟨hcl, ?_, e2, ?_, e4⟩, e3.same, hC, Int.le_refl _, e5⟩
    · show ((srun s).2 != 0) = false
      rw [e1]; rfl
    · show 0 ≤ s.q + 2
      omega
theorem vsync_calm {s : Sto} {n I : Int} (v : Vs s n I) (hlim : s.dk.lim = false) (hq : s.q < 4294967290) :
    ssyncE s = 0 ∧ Vs (ssync s) n I ∧ (ssync s).step = s.step ∧ (ssync s).group = noPgs s.dk.last.length ∧ (∀ i, Out n i → (ssync s).dk.last.getD i [] = gv s i) ∧ (ssync s).q ≤ s.q + 2 ∧ (ssync s).dk.lim = s.dk.lim := by
  obtain ⟨e1, e2, e3, e4, e5, e6⟩ := sync_calm v.snd hlim hq
  obtain ⟨_, g1, _, g3, g4⟩ := ssync_fine v.snd.ok e1
  have ha : (ssync s).a = s.a ∧ (ssync s).z = s.z := by
    unfold ssync
    split
    · exact ⟨rfl, rfl⟩
    · split
      · exact ⟨rfl, rfl⟩
      · split
        · exact ⟨rfl, rfl⟩
        · exact ⟨rfl, rfl⟩
  refine ⟨e1, ⟨e2, ha.1.trans v.a, ha.2.trans v.z, g4.trans v.r, by rw [e4]; exact v.len, v.pl⟩, g3, ?_, fun i hi => ?_, e5, e6⟩
  · have := cntO_zero g1
    rw [e2.ok.glen, e4] at this
    exact this
  · have hi2 := hi.2
    rw [e3 i (by rw [v.a, v.z]; omega), upd_gv s v.snd.ok i]
theorem vkeep_calm {s : Sto} {n I : Int} (v : Vs s n I) (hlim : s.dk.lim = false) (hq : s.q < 4294967290) :
    skeepE s = 0 ∧ Vs (skeep s) n I ∧ Idle (skeep s) ∧ (∀ i, Out n i → gv (skeep s) i = nv s i) ∧ (skeep s).q ≤ s.q + 2 ∧ (skeep s).dk.lim = s.dk.lim := by
  have hup : ¬ s.over = true := by rw [v.snd.up]; simp
  unfold skeepE skeep
  rw [if_neg hup, if_neg hup]
  by_cases hr : s.r < stog s
  · rw [if_pos hr, if_pos hr]
    obtain ⟨e1, e2, e3, e4, e6, e7, e8⟩ := vsync_calm v hlim hq
    rw [if_pos e1]
    refine ⟨e1, ⟨e2.snd.join (sjoin_sync v.snd.ok e1), e2.a, e2.z, e2.r, e2.len, e2.pl⟩, rfl, fun i hi => ?_, e7, e8⟩
    rw [join_gv e2.snd.ok]
    unfold nv
    rw [e6 i hi]
    unfold sheld gv
    rw [e3, e4, noPgs_at]
    cases s.step.getD i none <;> rfl
  · rw [if_neg hr, if_neg hr]
    exact ⟨rfl, ⟨v.snd.join (by omega), v.a, v.z, v.r, v.len, v.pl⟩, rfl, fun i _ => join_gv v.snd.ok, by show s.q ≤ s.q + 2; omega, rfl⟩
theorem Calm.long {α : Type} {s : Sto} {n I : Int} {k : Nat} (h : Calm s n I k) (hk : k ≤ 1000000) {m : Fs.M α} {er : Int} {s2 : Sto} {a : Option α} (ht : StepTo n I s m er s2 a) :
    Calm s2 n I (k + 1) ∧ ((∃ x V L, m (nv s) = (.ok x, V, L) ∧ er = 0 ∧ a = some x ∧ ∀ i, Out n i → nv s2 i = V i) ∨ (Fails s m er ∧ er ≠ 0 ∧ a = none ∧ s2 = s)) := by
  rcases ht with ⟨x, s', L, e, g, v, hz, rfl, rfl, rfl⟩ | ⟨f, h0, rfl, rfl⟩ | ⟨x, s', L, e, g, v, hz, _⟩
  · obtain ⟨g1, g2, g3, g4, g5⟩ := g.keeps
    obtain ⟨_, k2, k3, k4, k5, k6⟩ := vkeep_calm v (by rw [g1]; exact h.lim) (by rw [g3]; have := h.q; omega)
    refine ⟨⟨k2, k3, by rw [g3] at k5; have := h.q; omega, by rw [k6, g1]; exact h.lim⟩, Or.inl ⟨x, _, L, e, rfl, rfl, fun i hi => ?_⟩⟩
    rw [idle_nv k3]; exact k4 i hi
  · rw [idle_drop h.idle]
    exact ⟨⟨h.vs, h.idle, by have := h.q; omega, h.lim⟩, Or.inr ⟨f, h0, rfl, rfl⟩⟩
  · obtain ⟨g1, g2, g3, g4, g5⟩ := g.keeps
    obtain ⟨k1, _⟩ := vkeep_calm v (by rw [g1]; exact h.lim) (by rw [g3]; have := h.q; omega)
    exact absurd k1 hz
theorem Calm.pureLong {α : Type} {u : Sto} {n I : Int} {k : Nat} {m : Fs.M α} (h : Calm u n I k) (hk : k ≤ 1000000) (hc : Fs.Cv m (nv u) 34) {er : Int} {u2 : Sto} {a : Option α} (ht : StepTo n I u m er u2 a) :
    Calm u2 n I (k + 1) ∧ ((∃ x V L, m (nv u) = (.ok x, V, L) ∧ er = 0 ∧ a = some x ∧ ∀ i, Out n i → nv u2 i = V i) ∨ (∃ V L, m (nv u) = (.error er, V, L) ∧ er ≠ 0 ∧ a = none ∧ u2 = u)) := by
  obtain ⟨q, h1⟩ := h.long hk ht
  refine ⟨q, ?_⟩
  rcases h1 with ⟨x, V, L, e, e1, e3, e2⟩ | ⟨f, h0, e3, e2⟩
  · exact Or.inl ⟨x, V, L, e, e1, e3, e2⟩
  · obtain ⟨V, L, e⟩ := room_step h.vs h.idle f hc
    exact Or.inr ⟨V, L, e, h0, e3, e2⟩
end

section
open Dk (zeros zeros_length)
open Go.Shelf Go.RowKit
def lay153_ren : Go.Shelf.Ren := ⟨fun | 153 => 62 | 152 => 106 | 226 => 107 | 227 => 108 | 228 => 109 | 137 => 146 | 119 => 147 | 224 => 148 | 225 => 149 | 217 => 172 | 266 => 190 | n => n, fun | 9 => 9 | 3 => 3 | 4 => 4 | 5 => 5 | 21 => 21 | 117 => 148 | 116 => 147 | 0 => 0 | 46 => 189 | 124 => 190 | n => n, fun | n => n⟩
theorem lay153 : Go.Proofs.Lays.n153 Tryz.prog lay153_ren := {
  mixed := by kernel_rfl
  f119 := Tryz.func147.trans (congrArg some (by kernel_rfl))
  f137 := Tryz.func146.trans (congrArg some (by kernel_rfl))
  f152 := Tryz.func106.trans (congrArg some (by kernel_rfl))
  f153 := Tryz.func62.trans (congrArg some (by kernel_rfl))
  f217 := Tryz.func172.trans (congrArg some (by kernel_rfl))
  f224 := Tryz.func148.trans (congrArg some (by kernel_rfl))
  f225 := Tryz.func149.trans (congrArg some (by kernel_rfl))
  f226 := Tryz.func107.trans (congrArg some (by kernel_rfl))
  f227 := Tryz.func108.trans (congrArg some (by kernel_rfl))
  f228 := Tryz.func109.trans (congrArg some (by kernel_rfl))
  f266 := Tryz.func190.trans (congrArg some (by kernel_rfl))
  t0 := Tryz.underlying0
  a0 := Tryz.isAgg0
  z0 := Tryz.sizeOf0
  v0 := Tryz.zeroValue0
  t3 := Tryz.underlying3
  a3 := Tryz.isAgg3
  z3 := Tryz.sizeOf3
  v3 := Tryz.zeroValue3
  t4 := Tryz.underlying4
  a4 := Tryz.isAgg4
  z4 := Tryz.sizeOf4
  v4 := Tryz.zeroValue4
  t5 := Tryz.underlying5
  a5 := Tryz.isAgg5
  z5 := Tryz.sizeOf5
  v5 := Tryz.zeroValue5
  t9 := Tryz.underlying9
  a9 := Tryz.isAgg9
  z9 := Tryz.sizeOf9
  v9 := Tryz.zeroValue9
  t21 := Tryz.underlying21
  a21 := Tryz.isAgg21
  z21 := Tryz.sizeOf21
  v21 := Tryz.zeroValue21
  t46 := Tryz.underlying189
  a46 := Tryz.isAgg189
  z46 := Tryz.sizeOf189
  v46 := Tryz.zeroValue189
  t116 := Tryz.underlying147
  a116 := Tryz.isAgg147
  z116 := Tryz.sizeOf147
  t117 := Tryz.underlying148
  a117 := Tryz.isAgg148
  z117 := Tryz.sizeOf148
  v117 := Tryz.zeroValue148
  t124 := Tryz.underlying190
  a124 := Tryz.isAgg190
  z124 := Tryz.sizeOf190
  v124 := Tryz.zeroValue190 }
theorem set_cells (w : World) : (zeroValue (lay153_ren.t 116)).run Tryz.prog w = .ok (.agg (Array.replicate 256 (.bool false))) w := by kernel_rfl
theorem set_info : (Tryz.prog.info? (lay153_ren.t 116)).map (·.size) = some 256 := by kernel_rfl
theorem any_long (s : ByteArray) (w : World) (h8 : 8 < s.size) (h13 : s.size ≤ 13) :
    Calls Tryz.prog (lay153_ren.f 153) #[.string s, .string ⟨#[0, 47]⟩] w fun e w' => e = .returned (.int .i64 (Lib.indexAny s.data.toList [0, 47])) ∧ Below w.heap.size w w' :=
  (Any.strings_IndexAny_long lay153 set_cells set_info s ⟨#[0, 47]⟩ w (by decide) h8 (by omega) (by decide) (fun j b h => by
    have : b = 0 ∨ b = 47 := by
      match j, h with
      | 0, h => left; injection h with h; exact h.symm
      | 1, h => right; injection h with h; exact h.symm
      | k + 2, h => simp at h
    rcases this with rfl | rfl <;> decide)).mono fun _ _ h => ⟨h.1, by rw [h.2]; exact ((Below.refl _ _).alloc (Nat.le_refl _) _).alloc (by simp) _⟩
end

section
open Dk (zeros zeros_length)
open Go.RowKit Go.Shelf
theorem indexByte_any (s : ByteArray) (c : Int) (w : World) : Calls Tryz.prog 146 #[.string s, .int .u8 c] w fun e w' => e = .returned (.int .i64 (Lib.indexByte s.data.toList c.toNat.toUInt8)) ∧ w' = w :=
  Any.strings_IndexByte (ρ := lay153_ren) { lay153 with } s c w
theorem validRune_any (r : Int) (w : World) : Calls Tryz.prog 147 #[.int .i32 r] w fun e w' => e = .returned (.bool (Utf8.valid r)) ∧ w' = w := by
  rw [validRune_eq]
  exact Any.utf8_ValidRune (ρ := lay153_ren) { lay153 with } r w
theorem ascii_any (c : UInt8) (w : World) (h : c.toNat < 128) : Calls Tryz.prog 106 #[.string ⟨#[0, 47]⟩, .int .i32 (c.toNat : Int)] w fun e w' => (∃ v : Int, e = .returned (.int .i64 v) ∧ (Nm.bad c = true → decide (0 ≤ v) = true) ∧ (Nm.bad c = false → decide (0 ≤ v) = false)) ∧ w = w' :=
  (Any.strings_IndexRune_ascii (ρ := lay153_ren) { lay153 with } ⟨#[0, 47]⟩ (c.toNat : Int) w (by omega) (by omega)).mono fun _ _ ⟨h1, h2⟩ => by
    refine ⟨⟨_, h1, ?_⟩, h2.symm⟩
    have e : ((c.toNat : Int)).toNat.toUInt8 = c := by simp
    rw [e, ← Lib.contains_iff_indexByte]
    show (Nm.bad c = true → ([0, 47] : List UInt8).contains c = true) ∧ (Nm.bad c = false → ([0, 47] : List UInt8).contains c = false)
    unfold Nm.bad
    have : ([0, 47] : List UInt8).contains c = (c == 0 || c == 47) := by rw [List.contains_cons, List.contains_cons, List.contains_nil, Bool.or_false]
    rw [this]
    exact ⟨id, id⟩
theorem far_error (w : World) : Calls Tryz.prog 106 #[.string ⟨#[0, 47]⟩, .int .i32 65533] w fun e w' => e = .returned (.int .i64 (-1)) ∧ Below w.heap.size w w' := by
  go_enter Tryz.func106, Tryz.ntmps106
  go_wp2_with fail
  go_loopg [5, 6] 2 (fun g _ _ wx => ∃ i : Nat, i + g = 2 ∧ wx = w.iter ⟨#[0, 47]⟩ i)
  case atStart => exact ⟨0, rfl, rfl⟩
  case round =>
    obtain ⟨i, hig, rfl⟩ := hrel
    have hi : i = 0 ∨ i = 1 ∨ i = 2 := by omega
    rcases hi with rfl | rfl | rfl
    · have hnx := fun ty => run_next_ascii (P := Tryz.prog) w ⟨#[0, 47]⟩ 0 ty (by decide) (by decide)
      change ∀ ty, _ = Result.ok (Value.tuple #[.bool true, .int .i64 ((0 : Nat) : Int), .int .i32 0]) _ at hnx
      obtain rfl : gk = 2 := by omega
      go_wp2
      go_roundg 1
      case measure => omega
      case rel => exact ⟨1, rfl, rfl⟩
    · have hnx := fun ty => run_next_ascii (P := Tryz.prog) w ⟨#[0, 47]⟩ 1 ty (by decide) (by decide)
      change ∀ ty, _ = Result.ok (Value.tuple #[.bool true, .int .i64 ((1 : Nat) : Int), .int .i32 47]) _ at hnx
      obtain rfl : gk = 1 := by omega
      go_wp2
      go_roundg 0
      case measure => omega
      case rel => exact ⟨2, rfl, rfl⟩
    · have hnx := fun ty => run_next_end (P := Tryz.prog) w ⟨#[0, 47]⟩ 2 ty (by decide)
      go_wp2
      go_ret
      exact ⟨rfl, (Below.refl _ _).alloc (Nat.le_refl _) _⟩
theorem far_long (r : Int) (w : World) (h1 : 128 ≤ r) (h2 : r ≠ 65533) (hv : Utf8.valid r = true) (hs : 3 ≤ (Utf8.encode r).size) : Calls Tryz.prog 106 #[.string ⟨#[0, 47]⟩, .int .i32 r] w fun e w' => e = .returned (.int .i64 (-1)) ∧ Below w.heap.size w w' := by
  have hf := encode_facts r hv h1
  have hs4 := hf.2.1
  have HV := Lib.hid hv
  have hr : (r == 65533) = false := beq_eq_false_iff_ne.2 h2
  clear hf hv h2
  go_enter Tryz.func106, Tryz.ntmps106
  go_wp2_with (go_at_call 147; refine (validRune_any _ _).mono ?_; rw [HV.out]; rintro e w' ⟨rfl, hw⟩; rw [hw]; clear hw)
  have hcv := fun w => run_convert_int_string (P := Tryz.prog) w 21 9 .i32 r (by rw [Tryz.underlying21]; rfl) Tryz.underlying9
  generalize Utf8.encode r = t at hs hs4 hcv ⊢
  go_step3
  go_wp2
  go_loop [9] (fun i => i = .int .i64 ((t.size : Int) - 1)) (fun _ => 0)
  case atStart => rfl
  case round =>
    subst hrel
    go_wp2
    go_ret
    exact ⟨rfl, Below.refl _ _⟩
theorem nbelow_drewN (w : World) (n : Nat) : Below w.heap.size w (w.drewN n) := ⟨rfl, rfl, rfl, Nat.le_refl _, fun _ _ => rfl⟩
theorem run_slice_two (w : World) : (Instr.sliceAt 9 (.string ⟨#[0, 47]⟩) (some (.int .i64 2)) none none).run Tryz.prog w = .ok (.string ⟨#[]⟩) w := by kernel_rfl
theorem byte_none (c : UInt8) (w : World) : Calls Tryz.prog 146 #[.string ⟨#[]⟩, .int .u8 (c.toNat : Int)] w fun e w' => e = .returned (.int .i64 (-1)) ∧ w' = w := indexByte_any ⟨#[]⟩ _ w
theorem two_facts (r : Int) (hv : Utf8.valid r = true) (h1 : 128 ≤ r) (hs : (Utf8.encode r).size = 2) : ∃ (t : ByteArray) (c : UInt8) (h : 1 < t.size), Utf8.encode r = t ∧ t.size = 2 ∧ t[1]'h = c ∧ 128 ≤ c.toNat := by
  have hf := encode_facts r hv h1
  have hx := hf.2.2 (by omega)
  have e : (Utf8.encode r).size - 1 = 1 := by omega
  simp only [e] at hx
  exact ⟨_, _, by omega, rfl, hs, rfl, hx⟩
theorem far_two (r : Int) (w : World) (h1 : 128 ≤ r) (h2 : r ≠ 65533) (hv : Utf8.valid r = true) (hs : (Utf8.encode r).size = 2) : Calls Tryz.prog 106 #[.string ⟨#[0, 47]⟩, .int .i32 r] w fun e w' => e = .returned (.int .i64 (-1)) ∧ Below w.heap.size w w' := by
  obtain ⟨t, c, hlt, he, hl2, hc, hc128⟩ := two_facts r hv h1 hs
  have HV := Lib.hid hv
  have hr : (r == 65533) = false := beq_eq_false_iff_ne.2 h2
  have hcv := fun w => run_convert_int_string (P := Tryz.prog) w 21 9 .i32 r (by rw [Tryz.underlying21]; rfl) Tryz.underlying9
  rw [he] at hcv
  have hne : ((((⟨#[0, 47]⟩ : ByteArray)[1]'(by decide)).toNat : Int) != (c.toNat : Int)) = true := bne_iff_ne.2 (by show (47 : Int) ≠ _; omega)
  have hl : (t.size : Int) = 2 := by omega
  clear he hs hv h2 hl2
  go_enter Tryz.func106, Tryz.ntmps106
  go_wp2_with (go_at_call 147; refine (validRune_any _ _).mono ?_; rw [HV.out]; rintro e w' ⟨rfl, hw⟩; rw [hw]; clear hw)
  go_step3
  go_wp2
  go_loop [9] (fun i => i = .int .i64 1) (fun _ => 0)
  case atStart => rfl
  case round =>
    subst hrel
    go_wp2
    go_step3
    go_wp2
    go_quiet (fail)
    have HB := Lib.hid (nbelow_drewN w nq)
    generalize w.drewN nq = w2 at HB ⊢
    go_wp2
    have hw1 : IntKind.i64.wrap (1 + 1) = 2 := by decide
    have hsl := fun w => run_slice_two w
    go_quiet ((go_at_call 146; refine Calls.quiet_of_same (byte_none c _)))
    go_wp2
    show bodyPost Tryz.prog Tryz.f106 (fun e w' => e = .returned (.int .i64 (-1)) ∧ Below w.heap.size w w') Exit.ret _ _
    go_ret
    exact ⟨rfl, HB.out.trans ((nbelow_drewN w2 _).mono HB.out.size)⟩
end
end Go.Proofs.YtmpfcgjjejlhdaaGreat
