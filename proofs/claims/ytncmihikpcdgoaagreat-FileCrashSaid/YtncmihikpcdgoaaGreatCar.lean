/- Texts of the proof. -/
import Derived.Test.YtncmihikpcdgoaaGreatCaq
import Derived.Test.YtncmihikpcdgoaaGreatCap
import Derived.Maps.AppendAt
set_option maxRecDepth 100000
set_option maxHeartbeats 16000000
namespace Go.Proofs.YtncmihikpcdgoaaGreat
namespace Fs
open Dk (zeros zeros_length)
open Ii (Ino)
def K0 (I : Int) (V V' : View) : Prop := V' 0 = V 0 ∧ ∀ j : Nat, 43 ≤ j → (j : Int) < Pl.dataN I → V' j = V j
def Kp {α : Type} (I : Int) (m : M α) (V : View) : Prop := K0 I V (m V).2.1 ∧ 0 ∉ (m V).2.2
section
variable {α β : Type} {n I : Int} {V V' V'' : View}
theorem K0.refl (V : View) : K0 I V V := ⟨rfl, fun _ _ _ => rfl⟩
theorem K0.trans (h : K0 I V V') (k : K0 I V' V'') : K0 I V V'' := ⟨k.1.trans h.1, fun j h1 h2 => (k.2 j h1 h2).trans (h.2 j h1 h2)⟩
theorem kp_ret (a : α) : Kp I (ret a) V := ⟨K0.refl V, fun h => by cases h⟩
theorem kp_fail (e : Int) : Kp I (fail e : M α) V := ⟨K0.refl V, fun h => by cases h⟩
theorem kp_tell (f : View → Except Int α) : Kp I (tell f) V := ⟨K0.refl V, fun h => by cases h⟩
theorem kp_see (f : View → α) : Kp I (see f) V := ⟨K0.refl V, fun h => by cases h⟩
theorem kp_andThen {m : M α} {f : α → M β} (h : Kp I m V) (hf : ∀ a V1 L1, m V = (.ok a, V1, L1) → Kp I (f a) V1) : Kp I (andThen m f) V := by
  unfold Kp at h ⊢
  rcases e : m V with ⟨r, V1, L1⟩
  rw [e] at h
  cases r with
  | error er => rw [andThen_err e]; exact h
  | ok a =>
    rw [andThen_ok e]
    obtain ⟨k1, k2⟩ := hf a V1 L1 e
    exact ⟨h.1.trans k1, fun q => by
      rcases List.mem_append.1 q with q | q
      · exact h.2 q
      · exact k2 q⟩
theorem kp_wr {i : Nat} (hi : i ≠ 0) (h : i < 43 ∨ Pl.dataN I ≤ (i : Int)) (p : List UInt8) : Kp I (wr i p) V := by
  refine ⟨⟨?_, fun j h1 h2 => ?_⟩, fun q => hi (by simp [wr] at q; exact q.symm)⟩
  · show upd V i p 0 = V 0
    unfold upd; rw [if_neg (fun q => hi q.symm)]
  · show upd V i p j = V j
    unfold upd; rw [if_neg (by omega)]
theorem kp_mark {at1 : Nat} (h1 : 41 ≤ at1) (h2 : at1 ≤ 42) (bit : Int) (on1 : Bool) : Kp I (markM at1 bit on1) V := kp_wr (by omega) (by omega) _
theorem kp_data (hd : 44 ≤ Pl.dataN I) {m : Int} (h : isData n I m) (p : List UInt8) : Kp I (wr m.toNat p) V := by
  unfold isData at h
  exact kp_wr (by omega) (by omega) p
theorem kp_ite {c : Prop} [Decidable c] {m m' : M α} (h1 : c → Kp I m V) (h2 : ¬ c → Kp I m' V) : Kp I (if c then m else m') V := by
  split
  · exact h1 ‹_›
  · exact h2 ‹_›
end
section
variable {n I : Int} (hpl : Pl.rightB n I = true)
include hpl
theorem kp_take (V : View) : Kp I (takeM n I) V := by
  obtain ⟨b1, b2, b3, b4, b5, b6, b7⟩ := pl_bd hpl
  unfold Kp
  rcases take_cases hpl V with ⟨e, h⟩ | ⟨m, V1, h, hm, _, ho⟩
  · rw [h]; exact ⟨K0.refl V, fun h => by cases h⟩
  · rw [h]
    unfold isData at hm
    exact ⟨⟨ho 0 (by omega) (by omega), fun j h1 h2 => ho j (by omega) (by omega)⟩, fun q => by simp at q; omega⟩
omit hpl in
theorem data_of {m : Int} {V : View} {p : List UInt8} (h : dataF n I m V = .ok p) (h0 : m ≠ 0) : isData n I m ∧ p = V m.toNat := by
  unfold dataF at h
  rw [if_neg h0] at h
  split at h
  · next c => injection h with h; exact ⟨c, h.symm⟩
  · cases h
theorem take_data {V V1 : View} {m : Int} {L : List Nat} (h : takeM n I V = (.ok m, V1, L)) : isData n I m := by
  rcases take_cases hpl V with ⟨e, h2⟩ | ⟨m2, V2, h2, hm, _⟩
  · rw [h2] at h; injection h with h _; cases h
  · rw [h2] at h; injection h with h _; injection h with h; rw [← h]; exact hm
theorem data_ne {m : Int} (h : isData n I m) : m ≠ 0 := by
  obtain ⟨b1, b2, b3, b4, b5, b6, b7⟩ := pl_bd hpl
  unfold isData at h; omega
theorem kp_body (g : List UInt8 → List UInt8) : ∀ (ks : List Int) (m : Int) (V : View), m ≠ 0 → Kp I (bodyN n I g ks m) V
  | [], m, V, h0 => by
    obtain ⟨b1, b2, b3, b4, b5, b6, b7⟩ := pl_bd hpl
    rw [bodyN_nil]
    refine kp_andThen (kp_tell _) fun p V1 L1 e => ?_
    obtain ⟨e1, rfl, _⟩ := tell_is e
    exact kp_data b5 (data_of e1 h0).1 _
  | k :: ks, m, V, h0 => by
    obtain ⟨b1, b2, b3, b4, b5, b6, b7⟩ := pl_bd hpl
    rw [bodyN_cons]
    refine kp_andThen (kp_tell _) fun p V1 L1 e => ?_
    obtain ⟨e1, rfl, _⟩ := tell_is e
    refine kp_ite (fun _ => ?_) fun c => kp_body g ks _ V1 c
    exact kp_andThen (kp_take hpl V1) fun t V2 L2 e2 => kp_andThen (kp_data b5 (data_of e1 h0).1 _) fun _ V3 L3 _ => kp_body g ks t V3 (data_ne hpl (take_data hpl e2))
theorem kp_piece (g : List UInt8 → List UInt8) (x : Ino) (i : Int) (V : View) : Kp I (pieceM n I x i g) V := by
  unfold pieceM
  refine kp_ite (fun _ => ?_) fun c => ?_
  · exact kp_andThen (kp_take hpl V) fun m V1 L1 e => kp_andThen (kp_body hpl g _ m V1 (data_ne hpl (take_data hpl e))) fun _ _ _ _ => kp_ret _
  · exact kp_andThen (kp_body hpl g _ _ V c) fun _ _ _ _ => kp_ret _
theorem kp_wloop : ∀ (cs : List Pc) (x : Ino) (t : List UInt8) (V : View), Kp I (wloop n I cs x t) V
  | [], x, t, V => kp_ret x
  | c :: cs, x, t, V => by
    rw [wloop_piece]
    exact kp_andThen (kp_piece hpl _ _ _ V) fun y V1 _ _ => kp_wloop cs y _ V1
theorem kp_cut : ∀ (d : Nat) (m frm : Int) (V : View), Kp I (cutM n I d m frm) V := by
  obtain ⟨b1, b2, b3, b4, b5, b6, b7⟩ := pl_bd hpl
  intro d
  induction d with
  | zero =>
    intro m frm V
    unfold cutM
    exact kp_ite (fun _ => kp_ret _) fun _ => kp_ite (fun _ => kp_andThen (kp_mark (by omega) (by omega) _ _) fun _ _ _ _ => kp_ret _) fun _ => kp_ret _
  | succ d ih =>
    intro m frm V
    unfold cutM
    refine kp_ite (fun _ => kp_ret _) fun _ => kp_ite (fun hm => ?_) fun _ => kp_ret _
    have loop : ∀ (c k : Nat) (was p : List UInt8) (V : View), Kp I (cutLoop (cutM n I d) (32 ^ d) frm was k c p) V := by
      intro c
      induction c with
      | zero => intro k was p V; exact kp_ret p
      | succ c ihc =>
        intro k was p V
        unfold cutLoop
        exact kp_andThen (ih _ _ V) fun y V1 _ _ => ihc _ _ _ V1
    refine kp_andThen ?_ fun left V1 _ _ => kp_ite (fun _ => kp_ret _) fun _ => kp_andThen (kp_mark (by omega) (by omega) _ _) fun _ _ _ _ => kp_ret _
    unfold cutNums
    exact kp_andThen (kp_see _) fun was V1 _ _ => kp_andThen (loop _ _ _ _ V1) fun p V2 _ _ => kp_ite (fun _ => kp_ret _) fun _ => kp_ite (fun _ => kp_ret _) fun _ => kp_andThen (kp_data b5 hm _) fun _ _ _ _ => kp_ret _
theorem kp_cutFile (x : Ino) (frm : Int) (V : View) : Kp I (cutFile n I x frm) V := by
  unfold cutFile
  exact kp_andThen (kp_cut hpl _ _ _ V) fun a V1 _ _ => kp_andThen (kp_cut hpl _ _ _ V1) fun b V2 _ _ => kp_andThen (kp_cut hpl _ _ _ V2) fun c V3 _ _ => kp_andThen (kp_cut hpl _ _ _ V3) fun d V4 _ _ => kp_andThen (kp_cut hpl _ _ _ V4) fun e V5 _ _ => kp_andThen (kp_cut hpl _ _ _ V5) fun f V6 _ _ => kp_ret _
theorem kp_blank (x : Ino) (z : Int) (V : View) : Kp I (blankM n I x z) V := by
  obtain ⟨b1, b2, b3, b4, b5, b6, b7⟩ := pl_bd hpl
  unfold blankM
  refine kp_ite (fun _ => kp_ret _) fun _ => kp_andThen (kp_tell _) fun m V1 L1 e1 => kp_andThen (kp_tell _) fun was V2 L2 e2 => ?_
  obtain ⟨e3, rfl, _⟩ := tell_is e2
  by_cases h0 : m = 0
  · have hw : was = zeros := by
      subst h0
      unfold dataF at e3
      rw [if_pos rfl] at e3
      injection e3 with e3
      exact e3.symm
    rw [if_pos]
    · exact kp_ret _
    · rw [hw]
      unfold zeros
      rw [List.take_replicate, List.replicate_append_replicate]
      congr 1
      omega
  · exact kp_ite (fun _ => kp_ret _) fun _ => kp_data b5 (data_of e3 h0).1 _
omit hpl in
theorem kp_right (x : Ino) (V : View) : Kp I (rightM n I x) V := by
  unfold rightM
  exact kp_ite (fun _ => kp_fail _) fun _ => kp_ret _
end
theorem get_kl (p : List UInt8) (A : Nat) (x : Ino) (hp : p.length = 64) (hA : A + 32 ≤ 64) : (Ii.getI (Ii.putN p (A : Int) x) (A : Int)).k = Pg.numOf (Pg.bytesN 1 x.k) ∧ (Ii.getI (Ii.putN p (A : Int) x) (A : Int)).l = Pg.numOf (Pg.bytesN 2 x.l) := by
  rw [Ii.putN_is p A x hp hA, Ii.getI_is _ _ hA, show 32 = (Ii.half x).length from rfl, Ii.over_drop p A (Ii.half x) (by rw [Ii.half_length]; omega)]
  exact ⟨rfl, rfl⟩
theorem ino_links (V : View) (i : Int) : 0 ≤ (inoAt V i).l ∧ (inoAt V i).l < 65536 := by
  unfold inoAt
  split
  · exact ⟨Int.le_refl _, by decide⟩
  · unfold Ii.getI
    simp only
    unfold Pg.getN
    split
    · have h := Pg.numOf_bd ((List.drop (halfAt i + 6).toNat (V (tbl i))).take 2)
      have hl : ((List.drop (halfAt i + 6).toNat (V (tbl i))).take 2).length = 0 ∨ ((List.drop (halfAt i + 6).toNat (V (tbl i))).take 2).length = 1 ∨ ((List.drop (halfAt i + 6).toNat (V (tbl i))).take 2).length = 2 := by simp; omega
      refine ⟨h.1, Int.lt_of_lt_of_le h.2 ?_⟩
      rcases hl with q | q | q <;> rw [q] <;> decide
    · exact ⟨Int.le_refl _, by decide⟩
structure Nice (n I : Int) (V : View) : Prop where
  super : V 0 = Pl.superP n I
  kind : (inoAt V 1).k = 2
  links : (inoAt V 1).l ≠ 0
theorem K0.ino {n I i : Int} {V V' : View} (hpl : Pl.rightB n I = true) (h : K0 I V V') (h1 : 1 ≤ i) (h2 : i ≤ I) : inoAt V' i = inoAt V i := by
  have ht := tbl_bd hpl h1 h2
  unfold inoAt
  rw [h.2 (tbl i) ht.1 ht.2]
theorem K0.nice {n I : Int} {V V' : View} (hpl : Pl.rightB n I = true) (h : K0 I V V') (k : Nice n I V) : Nice n I V' := by
  have e := h.ino hpl (i := 1) (by omega) (pl_bd hpl).1
  exact ⟨h.1.trans k.super, by rw [e]; exact k.kind, by rw [e]; exact k.links⟩
def LenT (I : Int) (V : View) : Prop := ∀ i, 1 ≤ i → i ≤ I → (V (tbl i)).length = 64
section
variable {n I : Int} (hpl : Pl.rightB n I = true)
include hpl
theorem K0.lenT {V V' : View} (h : K0 I V V') (k : LenT I V) : LenT I V' := fun i h1 h2 => by
  have ht := tbl_bd hpl h1 h2
  rw [h.2 (tbl i) ht.1 ht.2]; exact k i h1 h2
omit hpl in
theorem half_nat (i : Int) : ∃ A : Nat, halfAt i = (A : Int) ∧ (A = 0 ∨ A = 32) := by
  unfold halfAt
  have : (i - 1) % 2 = 0 ∨ (i - 1) % 2 = 1 := by omega
  rcases this with e | e <;> rw [e]
  · exact ⟨0, rfl, Or.inl rfl⟩
  · exact ⟨32, rfl, Or.inr rfl⟩
omit hpl in
theorem setI_other {i j : Int} (h1 : 1 ≤ i) (h2 : i ≤ I) (k1 : 1 ≤ j) (hij : j ≠ i) (x : Ino) {V : View} (hV : LenT I V) : inoAt (setI i x V).2.1 j = inoAt V j := by
  by_cases c : Ii.putN (V (tbl i)) (halfAt i) x = V (tbl i)
  · rw [show setI i x V = ret () V from if_pos c]; rfl
  · rw [show setI i x V = wr (tbl i) (Ii.putN (V (tbl i)) (halfAt i) x) V from if_neg c]
    show inoAt (upd V (tbl i) (Ii.putN (V (tbl i)) (halfAt i) x)) j = inoAt V j
    unfold inoAt upd
    by_cases e : tbl j = tbl i
    · rw [if_pos e]
      obtain ⟨A, eA, hA⟩ := half_nat i
      obtain ⟨B, eB, hB⟩ := half_nat j
      have hne : A ≠ B := fun q => by
        unfold tbl at e
        unfold halfAt at eA eB
        omega
      rw [eA, eB, Ii.get_other _ A B x (hV i h1 h2) (by omega) (by omega) (by omega), e]
    · rw [if_neg e]
theorem setI_zero {i : Int} (h1 : 1 ≤ i) (h2 : i ≤ I) (x : Ino) (V : View) : (setI i x V).2.1 0 = V 0 := by
  have ht := tbl_bd hpl h1 h2
  by_cases c : Ii.putN (V (tbl i)) (halfAt i) x = V (tbl i)
  · rw [show setI i x V = ret () V from if_pos c]; rfl
  · rw [show setI i x V = wr (tbl i) (Ii.putN (V (tbl i)) (halfAt i) x) V from if_neg c]
    show upd V (tbl i) _ 0 = V 0
    unfold upd
    rw [if_neg (by omega)]
omit hpl in
theorem setI_same {i : Int} (h1 : 1 ≤ i) (h2 : i ≤ I) (x : Ino) {V : View} (hV : LenT I V) : Ii.getI ((setI i x V).2.1 (tbl i)) (halfAt i) = Ii.getI (Ii.putN (V (tbl i)) (halfAt i) x) (halfAt i) := by
  by_cases c : Ii.putN (V (tbl i)) (halfAt i) x = V (tbl i)
  · rw [show setI i x V = ret () V from if_pos c, c]; rfl
  · rw [show setI i x V = wr (tbl i) (Ii.putN (V (tbl i)) (halfAt i) x) V from if_neg c]
    show Ii.getI (upd V (tbl i) _ (tbl i)) _ = _
    unfold upd
    rw [if_pos rfl]
omit hpl in
theorem setI_lenT {i : Int} (h1 : 1 ≤ i) (h2 : i ≤ I) (x : Ino) {V : View} (hV : LenT I V) : LenT I (setI i x V).2.1 := fun j k1 k2 => by
  by_cases c : Ii.putN (V (tbl i)) (halfAt i) x = V (tbl i)
  · rw [show setI i x V = ret () V from if_pos c]; exact hV j k1 k2
  · rw [show setI i x V = wr (tbl i) (Ii.putN (V (tbl i)) (halfAt i) x) V from if_neg c]
    show (upd V (tbl i) _ (tbl j)).length = 64
    unfold upd
    split
    · obtain ⟨A, eA, hA⟩ := half_nat i
      exact Ii.putN_length _ _ _ (hV i h1 h2) (by rw [eA]; omega)
    · exact hV j k1 k2
theorem nice_other {i : Int} (h1 : 1 ≤ i) (h2 : i ≤ I) (hi : i ≠ 1) (x : Ino) {V : View} (hV : LenT I V) (k : Nice n I V) : Nice n I (setI i x V).2.1 := by
  have e := setI_other h1 h2 (j := 1) (by omega) (fun q => hi q.symm) x hV
  exact ⟨(setI_zero hpl h1 h2 x V).trans k.super, by rw [e]; exact k.kind, by rw [e]; exact k.links⟩
theorem nice_root (x : Ino) {V : View} (hV : LenT I V) (k : Nice n I V) (hk : x.k = 2) (hl0 : x.l ≠ 0) (hl1 : 0 ≤ x.l ∧ x.l < 65536) : Nice n I (setI 1 x V).2.1 := by
  obtain ⟨b1, b2, b3, b4, b5, b6, b7⟩ := pl_bd hpl
  have e := setI_same (i := 1) (by omega) b1 x hV
  obtain ⟨g1, g2⟩ := get_kl (V (tbl 1)) 0 x (hV 1 (by omega) b1) (by omega)
  have ha : halfAt 1 = ((0 : Nat) : Int) := rfl
  rw [ha] at e
  rw [← e, hk] at g1
  rw [← e, Ii.fit2 hl1] at g2
  have e2 : Pg.numOf (Pg.bytesN 1 2) = 2 := by decide
  rw [e2] at g1
  refine ⟨(setI_zero hpl (by omega) b1 x V).trans k.super, ?_, ?_⟩
  · unfold inoAt
    rw [ha, g1, if_neg (by decide)]
    exact g1
  · unfold inoAt
    rw [ha, g1, if_neg (by decide), g2]
    exact hl0
omit hpl in
theorem least_free (V : View) : ∀ (c : Nat) (i j : Int), leastG V c i = .ok j → (inoAt V j).k = 0
  | 0, i, j, h => by cases h
  | c + 1, i, j, h => by
    unfold leastG at h
    split at h
    · next q => injection h with h; rw [← h]; exact q
    · exact least_free V c (i + 1) j h
def Kn {α : Type} (n I : Int) (m : M α) (V : View) : Prop := Nice n I (m V).2.1 ∧ LenT I (m V).2.1 ∧ 0 ∉ (m V).2.2
omit hpl in
theorem kn_andThen {α β : Type} {m : M α} {f : α → M β} {V : View} (h : Kn n I m V) (hf : ∀ a V1 L1, m V = (.ok a, V1, L1) → Nice n I V1 → LenT I V1 → Kn n I (f a) V1) : Kn n I (andThen m f) V := by
  unfold Kn at h ⊢
  rcases e : m V with ⟨r, V1, L1⟩
  rw [e] at h
  cases r with
  | error er => rw [andThen_err e]; exact h
  | ok a =>
    rw [andThen_ok e]
    obtain ⟨k1, k2, k3⟩ := hf a V1 L1 e h.1 h.2.1
    exact ⟨k1, k2, fun q => by
      rcases List.mem_append.1 q with q | q
      · exact h.2.2 q
      · exact k3 q⟩
theorem kn_of {α : Type} {m : M α} {V : View} (h : Kp I m V) (k : Nice n I V) (hV : LenT I V) : Kn n I m V := ⟨K0.nice hpl h.1 k, K0.lenT hpl h.1 hV, h.2⟩
theorem setI_log {i : Int} (h1 : 1 ≤ i) (h2 : i ≤ I) (x : Ino) (V : View) : 0 ∉ (setI i x V).2.2 := by
  have ht := tbl_bd hpl h1 h2
  by_cases c : Ii.putN (V (tbl i)) (halfAt i) x = V (tbl i)
  · rw [show setI i x V = ret () V from if_pos c]; exact fun q => by cases q
  · rw [show setI i x V = wr (tbl i) (Ii.putN (V (tbl i)) (halfAt i) x) V from if_neg c]; exact fun q => by simp [wr] at q; omega
theorem kn_new (x : Ino) {V : View} (k : Nice n I V) (hV : LenT I V) : Kn n I (newM n I x) V := by
  obtain ⟨b1, b2, b3, b4, b5, b6, b7⟩ := pl_bd hpl
  unfold newM
  refine kn_andThen (kn_of hpl (kp_right _ V) k hV) fun y V1 _ _ k1 h1 => kn_andThen (kn_of hpl (kp_tell _) k1 h1) fun i V2 _ e k2 h2 => ?_
  obtain ⟨e1, rfl, _⟩ := tell_is (f := fun V => leastG V I.toNat 1) e
  have hi := least_in _ _ _ _ e1
  have hne : i ≠ 1 := fun q => by
    have := least_free _ _ _ _ e1
    rw [q, k2.kind] at this
    cases this
  exact kn_andThen ⟨nice_other hpl (by omega) (by omega) hne _ h2 k2, setI_lenT (by omega) (by omega) _ h2, setI_log hpl (by omega) (by omega) _ _⟩ fun _ V3 _ _ k3 h3 => kn_andThen (kn_of hpl (kp_mark (by omega) (by omega) _ _) k3 h3) fun _ V4 _ _ k4 h4 => kn_of hpl (kp_ret _) k4 h4
theorem kn_change (i : Int) (hi : i ≠ 1) (x : Ino) {V : View} (k : Nice n I V) (hV : LenT I V) : Kn n I (changeM n I i x) V := by
  unfold changeM
  refine kn_andThen (kn_of hpl (kp_tell _) k hV) fun was V1 _ e k1 h1 => ?_
  obtain ⟨e1, rfl, _⟩ := tell_is e
  obtain ⟨i1, i2, _⟩ := taken_yes e1
  exact kn_andThen (kn_of hpl (kp_right _ _) k1 h1) fun y V2 _ _ k2 h2 => ⟨nice_other hpl i1 i2 hi _ h2 k2, setI_lenT i1 i2 _ h2, setI_log hpl i1 i2 _ _⟩
theorem kn_release (i : Int) (hi : i ≠ 1) {V : View} (k : Nice n I V) (hV : LenT I V) : Kn n I (releaseM n I i) V := by
  unfold releaseM
  refine kn_andThen (kn_of hpl (kp_tell _) k hV) fun x V1 _ e k1 h1 => ?_
  obtain ⟨e1, rfl, _⟩ := tell_is e
  obtain ⟨i1, i2, _⟩ := taken_yes e1
  exact kn_andThen (kn_of hpl (kp_cutFile hpl x 0 V1) k1 h1) fun _ V2 _ _ k2 h2 => kn_andThen ⟨nice_other hpl i1 i2 hi _ h2 k2, setI_lenT i1 i2 _ h2, setI_log hpl i1 i2 _ _⟩ fun _ V3 _ _ k3 h3 => kn_of hpl (kp_mark (by omega) (by omega) _ _) k3 h3
omit hpl in
theorem andThen_is {α β : Type} {m : M α} {f : α → M β} {V V' : View} {b : β} {L : List Nat} (h : andThen m f V = (.ok b, V', L)) : ∃ a V1 L1 L2, m V = (.ok a, V1, L1) ∧ f a V1 = (.ok b, V', L2) := by
  rcases e : m V with ⟨r, V1, L1⟩
  cases r with
  | error er => rw [andThen_err e] at h; injection h with h _; cases h
  | ok a =>
    rw [andThen_ok e] at h
    rcases e2 : f a V1 with ⟨r2, V2, L2⟩
    rw [e2] at h
    injection h with h h'
    injection h' with h' _
    simp only at h h'
    subst h h'
    exact ⟨a, V1, L1, L2, rfl, e2⟩
omit hpl in
theorem piece_kl {g : List UInt8 → List UInt8} {x z : Ino} {i : Int} {V V1 : View} {L : List Nat} (h : pieceM n I x i g V = (.ok z, V1, L)) : z.k = x.k ∧ z.l = x.l := by
  unfold pieceM at h
  split at h
  · obtain ⟨m, _, _, _, _, h⟩ := andThen_is h
    obtain ⟨_, _, _, _, _, h⟩ := andThen_is h
    unfold ret at h
    injection h with h _
    injection h with h
    rw [← h]
    unfold setFirst setDir
    split
    · split <;> exact ⟨rfl, rfl⟩
    · split <;> exact ⟨rfl, rfl⟩
  · obtain ⟨_, _, _, _, _, h⟩ := andThen_is h
    unfold ret at h
    injection h with h _
    injection h with h
    rw [← h]; exact ⟨rfl, rfl⟩
omit hpl in
theorem wloop_kl (cs : List Pc) : ∀ (x y : Ino) (t : List UInt8) (V V1 : View) (L : List Nat), wloop n I cs x t V = (.ok y, V1, L) → y.k = x.k ∧ y.l = x.l := by
  induction cs with
  | nil =>
    intro x y t V V1 L h
    unfold wloop ret at h
    injection h with h _
    injection h with h
    rw [h]; exact ⟨rfl, rfl⟩
  | cons c cs ih =>
    intro x y t V V1 L h
    rw [wloop_piece] at h
    obtain ⟨z, V2, L2, L3, e, h⟩ := andThen_is h
    obtain ⟨q1, q2⟩ := ih _ _ _ _ _ _ h
    obtain ⟨p1, p2⟩ := piece_kl e
    exact ⟨q1.trans p1, q2.trans p2⟩
omit hpl in
theorem cutFile_kl {x y : Ino} {frm : Int} {V V1 : View} {L : List Nat} (h : cutFile n I x frm V = (.ok y, V1, L)) : y.k = x.k ∧ y.l = x.l := by
  unfold cutFile at h
  obtain ⟨a, _, _, _, _, h⟩ := andThen_is h
  obtain ⟨b, _, _, _, _, h⟩ := andThen_is h
  obtain ⟨c, _, _, _, _, h⟩ := andThen_is h
  obtain ⟨d, _, _, _, _, h⟩ := andThen_is h
  obtain ⟨e, _, _, _, _, h⟩ := andThen_is h
  obtain ⟨f, _, _, _, _, h⟩ := andThen_is h
  unfold ret at h
  injection h with h _
  injection h with h
  rw [← h]; exact ⟨rfl, rfl⟩
theorem kn_set {i : Int} (h1 : 1 ≤ i) (h2 : i ≤ I) {V0 V : View} (k : Nice n I V) (hV : LenT I V) (k0 : Nice n I V0) (y : Ino) (hy : y.k = (inoAt V0 i).k ∧ y.l = (inoAt V0 i).l) : Kn n I (setI i y) V := by
  refine ⟨?_, setI_lenT h1 h2 y hV, setI_log hpl h1 h2 y V⟩
  by_cases hi : i = 1
  · subst hi
    exact nice_root hpl y hV k (by rw [hy.1]; exact k0.kind) (by rw [hy.2]; exact k0.links) (by rw [hy.2]; exact ino_links V0 1)
  · exact nice_other hpl h1 h2 hi y hV k
theorem kn_write (i off : Int) (t : List UInt8) {V : View} (k : Nice n I V) (hV : LenT I V) : Kn n I (writeM n I i off t) V := by
  unfold writeM
  refine kn_andThen (kn_of hpl (kp_tell _) k hV) fun x V1 _ e k1 h1 => ?_
  obtain ⟨e1, rfl, _⟩ := tell_is e
  obtain ⟨i1, i2, ex, _⟩ := taken_yes e1
  by_cases c1 : off < 0
  · rw [if_pos c1]; exact ⟨k1, h1, fun q => by cases q⟩
  rw [if_neg c1]
  by_cases c2 : t = []
  · rw [if_pos c2]; exact ⟨k1, h1, fun q => by cases q⟩
  rw [if_neg c2]
  by_cases c3 : 67840 - (t.length : Int) < off
  · rw [if_pos c3]; exact ⟨k1, h1, fun q => by cases q⟩
  rw [if_neg c3]
  refine kn_andThen (kn_of hpl (kp_wloop hpl _ _ _ _) k1 h1) fun y V2 L2 e2 k2 h2 => kn_set hpl i1 i2 k2 h2 k1 y ?_
  have := wloop_kl _ _ _ _ _ _ _ e2
  rw [← ex]; exact this
theorem kn_trunc (i z : Int) {V : View} (k : Nice n I V) (hV : LenT I V) : Kn n I (truncM n I i z) V := by
  unfold truncM
  refine kn_andThen (kn_of hpl (kp_tell _) k hV) fun x V1 _ e k1 h1 => ?_
  obtain ⟨e1, rfl, _⟩ := tell_is e
  obtain ⟨i1, i2, ex, _⟩ := taken_yes e1
  by_cases c1 : z < 0
  · rw [if_pos c1]; exact ⟨k1, h1, fun q => by cases q⟩
  rw [if_neg c1]
  by_cases c2 : 67840 < z
  · rw [if_pos c2]; exact ⟨k1, h1, fun q => by cases q⟩
  rw [if_neg c2]
  refine kn_andThen (kn_of hpl (kp_cutFile hpl _ _ _) k1 h1) fun y V2 L2 e2 k2 h2 => kn_andThen (kn_of hpl (kp_blank hpl _ _ _) k2 h2) fun _ V3 _ _ k3 h3 => kn_set hpl i1 i2 k3 h3 k1 _ ?_
  have := cutFile_kl e2
  rw [← ex]; exact this
theorem kn_op (o : Fop) (ho : ¬ (o.ino = 1 ∧ (o.k = 1 ∨ o.k = 2))) {V : View} (k : Nice n I V) (hV : LenT I V) : Kn n I (opM n I o) V := by
  unfold opM
  by_cases k0 : o.k = 0
  · rw [if_pos k0]; exact kn_new hpl _ k hV
  rw [if_neg k0]
  by_cases k1 : o.k = 1
  · rw [if_pos k1]; exact kn_andThen (kn_change hpl _ (by omega) _ k hV) fun _ _ _ _ a b => ⟨a, b, fun q => by cases q⟩
  rw [if_neg k1]
  by_cases k2 : o.k = 2
  · rw [if_pos k2]; exact kn_andThen (kn_release hpl _ (by omega) k hV) fun _ _ _ _ a b => ⟨a, b, fun q => by cases q⟩
  rw [if_neg k2]
  by_cases k3 : o.k = 3
  · rw [if_pos k3]; exact kn_andThen (kn_write hpl _ _ _ k hV) fun _ _ _ _ a b => ⟨a, b, fun q => by cases q⟩
  rw [if_neg k3]
  by_cases k4 : o.k = 4
  · rw [if_pos k4]; exact kn_andThen (kn_trunc hpl _ _ k hV) fun _ _ _ _ a b => ⟨a, b, fun q => by cases q⟩
  rw [if_neg k4]; exact ⟨k, hV, fun q => by cases q⟩
end
end Fs

section
open Go.RowKit Go.Maps
open Dk (zeros zeros_length)
open Ii (Ino)
namespace Fs
def u8 (z : Int) : UInt8 := UInt8.ofNat (z % 256).toNat
theorem u8_toNat (z : Int) : ((u8 z).toNat : Int) = z % 256 := by
  unfold u8
  rw [UInt8.toNat_ofNat']
  omega
end Fs
namespace Fs
theorem textN_le (p : List UInt8) (hp : p.length ≤ 64) (a n : Int) : (Pg.textN p a n).length ≤ 64 := by
  unfold Pg.textN
  split
  · simp; omega
  · simp
theorem pcs_len : ∀ (f off n : Nat), (pcs f off n).length ≤ f := by
  intro f
  induction f with
  | zero => intro off n; exact Nat.le_refl _
  | succ f ih =>
    intro off n
    unfold pcs
    split
    · simp
    · simp only [List.length_cons]; have := ih (off + min n (64 - off % 64)) (n - min n (64 - off % 64)); omega
theorem dataF_len {n I m : Int} {V : View} (hV : ∀ m, isData n I m → (V m.toNat).length = 64) {p : List UInt8} (h : dataF n I m V = .ok p) : p.length ≤ 64 := by
  unfold dataF at h
  split at h
  · injection h with h; subst h; rw [zeros_length]; exact Nat.le_refl _
  · split at h
    · next c => injection h with h; subst h; rw [hV m c]; exact Nat.le_refl _
    · cases h
theorem pageF_len {n I i : Int} {x : Ino} {V : View} (hV : ∀ m, isData n I m → (V m.toNat).length = 64) {p : List UInt8} (h : pageF n I x i V = .ok p) : p.length ≤ 64 := by
  unfold pageF at h
  split at h
  · exact dataF_len hV h
  · cases h
theorem readG_len {n I : Int} {x : Ino} {V : View} (hV : ∀ m, isData n I m → (V m.toNat).length = 64) : ∀ (cs : List Pc) (t : List UInt8), readG n I x V cs = .ok t → t.length ≤ 64 * cs.length := by
  intro cs
  induction cs with
  | nil => intro t h; rw [readG_nil] at h; injection h with h; subst h; simp
  | cons c cs ih =>
    intro t h
    cases hp : pageF n I x c.idx V with
    | error e => rw [readG_bad hp] at h; cases h
    | ok p =>
      rw [readG_ok hp] at h
      cases hr : readG n I x V cs with
      | error e => rw [hr] at h; cases h
      | ok t2 =>
        rw [hr] at h
        unfold readT at h
        injection h with h
        subst h
        have h1 := ih t2 hr
        have h2 := textN_le p (pageF_len hV hp) c.at1 c.size
        rw [List.length_append, List.length_cons]
        omega
theorem readF_len {n I i off : Int} {V : View} (hV : ∀ m, isData n I m → (V m.toNat).length = 64) {t : List UInt8} (h : readF n I i off 300 V = .ok t) : t.length ≤ 19200 := by
  unfold readF at h
  split at h
  · cases h
  · split at h
    · cases h
    · have h1 := readG_len hV _ _ h
      unfold pieces at h1
      refine Nat.le_trans h1 (Nat.le_trans (Nat.mul_le_mul_left 64 (pcs_len _ _ _)) ?_)
      omega
end Fs
theorem Vs.dataLen {s : Sto} {n I : Int} (v : Vs s n I) (m : Int) (h : Fs.isData n I m) : (nv s m.toNat).length = 64 := by
  have := v.bd
  exact (v.read (i := m) ⟨by have := h.1; omega, h.2, by have := h.1; omega⟩).2.2
theorem byteV_u8 (z : Int) : Value.int .u8 (z % 256) = .int .u8 ((Fs.u8 z).toNat : Int) := by rw [Fs.u8_toNat]
theorem own_below {w w' : World} {base n : Nat} {e : TypeId} {v : Value} {xs : List Value} (h : w.ownsRow base e 1 v n xs) (hb : Below w.heap.size w w') : w'.ownsRow base e 1 v n xs := by
  refine ⟨h.1, ?_⟩
  rcases h.2 with hn | ⟨g, cap, cur, hv, hg0, hg, rest⟩
  · exact Or.inl hn
  · exact Or.inr ⟨g, cap, cur, hv, hg0, (hb.block g (Array.getElem?_eq_some_iff.1 hg).1).trans hg, rest⟩
theorem own_app {w : World} {base k : Nat} {e : TypeId} {A : Option Addr} {c : Nat} {l t : List UInt8} (h : w.ownsRow base e 1 (.slice A (l.length + k) c) (l.length + k) (byteVals l ++ byteVals t)) (hk : t.length = k) : w.ownsRow base e 1 (.slice A (l ++ t).length c) (l ++ t).length (byteVals (l ++ t)) := by
  have e1 : byteVals (l ++ t) = byteVals l ++ byteVals t := by unfold byteVals; rw [List.map_append]
  rw [e1, List.length_append, hk]
  exact h
theorem own_text {w : World} {base : Nat} {A : Option Addr} {c : Nat} {l : List UInt8} (h : w.ownsRow base 5 1 (.slice A l.length c) l.length (byteVals l)) : (convert 48 9 (.slice A l.length c)).run Tryz.prog w = .ok (.string (strOf l)) w := by
  rcases h.2 with ⟨hv, h0⟩ | ⟨g, cap, cur, hv, r⟩
  · injection hv with hA _ _
    subst hA
    have hl : l = [] := List.length_eq_zero_iff.1 h0
    subst hl
    exact run_convert_bytes_nil w 48 5 Tryz.underlying48 Tryz.underlying5 _ _ 9 Tryz.underlying9
  · injection hv with hA _ _
    subst hA
    refine run_convert_bytes_back (P := Tryz.prog) w 48 9 5 ⟨g, 0, none⟩ c l Tryz.underlying48 Tryz.underlying5 Tryz.underlying9 (fun j hj => ?_)
    exact h.cells (g := g) rfl j _ (by simp [byteVals, List.getElem?_eq_getElem hj])
theorem heap_grown {w w' : World} {r : Option Nat} {P : Nat} {o : Obj} (hg : w.grownBy w' r) (h : w.heap[P]? = some o) (hr : r ≠ some P) : w'.heap[P]? = some o := (hg.block P (Array.getElem?_eq_some_iff.1 h).1 (fun e => hr e.symm)).trans h
theorem own_ne {w : World} {base : Nat} {e t : TypeId} {v : Value} {n : Nat} {xs : List Value} (h : w.ownsRow base e 1 v n xs) {P : Nat} {a : Array Value} (hP : w.heap[P]? = some (.cells a t (0, 0))) (ht : t ≠ e) : v.ownBlock ≠ some P := by
  intro hv
  rcases h.2 with ⟨rfl, _⟩ | ⟨g, cap, cur, rfl, _, hg, _⟩
  · cases hv
  · injection hv with hv
    simp only at hv
    subst hv
    rw [hP] at hg
    injection hg with hg
    injection hg with _ h2 _
    exact ht h2
theorem bytes_own (w : World) : w.ownsRow w.heap.size 5 1 (.slice none 0 0) 0 (byteVals []) := ⟨rfl, Or.inl ⟨rfl, rfl⟩⟩
end

section
open Go.RowKit Go.Maps
open Dk (zeros zeros_length)
open Ii (Ino)
namespace Fs
def clnPart (n I i at1 : Int) (V : View) : List UInt8 := match readF n I i at1 300 V with
  | .ok t => t
  | .error _ => []
def clnHead (x : Ino) : List UInt8 := [u8 x.k, u8 x.p, u8 (x.p / 256), u8 x.u, u8 (x.u / 256), u8 x.l, u8 x.s, u8 (x.s / 256), u8 (x.s / 65536)]
def clnI (n I i : Int) (V : View) : List UInt8 := if (inoAt V i).k = 0 ∨ (inoAt V i).l = 0 then [0] else clnHead (inoAt V i) ++ clnPart n I i 0 V ++ clnPart n I i (max ((inoAt V i).s - 300) 0) V
def clnG (n I : Int) (V : View) : Nat → Int → List UInt8
  | 0, _ => []
  | c + 1, i => clnI n I i V ++ clnG n I V c (i + 1)
def cleanF (n I : Int) (V : View) : List UInt8 := clnG n I V I.toNat 1
end Fs
theorem cln_read (n I i off : Int) (V : Fs.View) (hV : ∀ m, Fs.isData n I m → (V m.toNat).length = 64) : ∃ (t : List UInt8) (er : Int), exV (fun l => Value.string (strOf l)) (.string ⟨#[]⟩) (Fs.readF n I i off 300 V) = .tuple #[.string (strOf t), .int .i64 er] ∧ Fs.clnPart n I i off V = t ∧ t.length ≤ 19200 := by
  unfold Fs.clnPart
  cases hr : Fs.readF n I i off 300 V with
  | ok t => exact ⟨t, 0, rfl, rfl, Fs.readF_len hV hr⟩
  | error e => exact ⟨[], e, rfl, rfl, by simp⟩
theorem cln_vals (x : Ino) : (byteVals (Fs.clnHead x)).toArray = #[.int .u8 (x.k % 256), .int .u8 (x.p % 256), .int .u8 (x.p / 256 % 256), .int .u8 (x.u % 256), .int .u8 (x.u / 256 % 256), .int .u8 (x.l % 256), .int .u8 (x.s % 256), .int .u8 (x.s / 256 % 256), .int .u8 (x.s / 65536 % 256)] := by
  rw [byteV_u8 x.k, byteV_u8 x.p, byteV_u8 (x.p / 256), byteV_u8 x.u, byteV_u8 (x.u / 256), byteV_u8 x.l, byteV_u8 x.s, byteV_u8 (x.s / 256), byteV_u8 (x.s / 65536)]
  rfl
theorem cln_new (W : World) (x : Ino) : ∀ j u, (byteVals (Fs.clnHead x))[j]? = some u → (W.alloc (.cells #[.int .u8 (x.k % 256), .int .u8 (x.p % 256), .int .u8 (x.p / 256 % 256), .int .u8 (x.u % 256), .int .u8 (x.u / 256 % 256), .int .u8 (x.l % 256), .int .u8 (x.s % 256), .int .u8 (x.s / 256 % 256), .int .u8 (x.s / 65536 % 256)] 5)).cell? ((⟨W.heap.size, 0, none⟩ : Addr).add j) = some u := by
  rw [← cln_vals]
  exact cell_new W _ _
theorem cln_zero (W : World) : ∀ j u, (byteVals [0])[j]? = some u → (W.alloc (.cells #[.int .u8 0] 5)).cell? ((⟨W.heap.size, 0, none⟩ : Addr).add j) = some u := cell_new W (byteVals [0]) _
theorem clean_any {w : World} {V : Nat} {b : Blk} {s : Sto} {n I k : Int} (h : VolAt w V b s n I k) (v : Vs s n I) : Calls Tryz.prog 21 #[.pointer (some ⟨V, 0, none⟩)] w fun e w' => e = .returned (.string (strOf (Fs.cleanF n I (nv s)))) ∧ Below w.heap.size w w' := by
  have bd := v.bd
  have hdl := v.dataLen
  have HP : Hid (∀ W, Below w.heap.size w W → Calls Tryz.prog 31 #[.pointer (some ⟨V, 0, none⟩)] W fun e w' => e = .returned (.agg #[.int .i64 n, .int .i64 I]) ∧ Below W.heap.size W w') := Lib.hid (fun (W : World) (hb : Below w.heap.size w W) => vplan_any (h.below hb))
  have HI := Lib.hid (fun (W : World) (hb : Below w.heap.size w W) (i : Int) => vinode_any (h.below hb) v i)
  have HRD := Lib.hid (fun (W : World) (hb : Below w.heap.size w W) (i off : Int) (ho : off ≤ 9223372036854775807) => vread_any (h.below hb) v i off 300 ho)
  have hfd : ∀ W : World, (Instr.field 63 (.agg #[.int .i64 n, .int .i64 I]) 1).run Tryz.prog W = .ok (.int .i64 I) W := fun _ => by kernel_rfl
  have S0 := Lib.hid (Lo.start (L := []) w (by simp))
  clear h v
  go_enter Tryz.func21, Tryz.ntmps21
  go_wp2_with fail
  have HO1 : Hid (w.ownsRow w.heap.size 5 1 (.slice none 0 0) 0 (byteVals [])) := Lib.hid (bytes_own w)
  have HT1 : Hid (([] : List UInt8) ++ Fs.clnG n I (nv s) I.toNat 1 = Fs.cleanF n I (nv s)) := Lib.hid rfl
  have HT0 := Lib.hid hdl
  clear hdl
  obtain ⟨i0, hi0, hz0⟩ := Option.map_eq_some_iff.1 info_byte
  have HI0 := Lib.hid hi0
  have HZ0 : Hid (i0.zero = some (.int .u8 0)) := Lib.hid (by
    have := zero_byte
    rw [hi0] at this
    simpa using this)
  have HS0 : Hid (i0.size = 1) := Lib.hid (congrArg Prod.fst hz0)
  have HB0 : Hid (i0.bytes = 1) := Lib.hid (congrArg Prod.snd hz0)
  clear hi0 hz0
  go_loopw [3, 4] (fun sl i wr => ∃ (q m : Nat) (l : List UInt8) (A : Option Addr) (c : Nat), q + m = I.toNat ∧ i = .int .i64 ((q : Int) + 1) ∧ sl = .slice A l.length c ∧ Hid (wr.ownsRow w.heap.size 5 1 (.slice A l.length c) l.length (byteVals l)) ∧ Lo [] w [] wr ∧ Hid (l ++ Fs.clnG n I (nv s) m ((q : Int) + 1) = Fs.cleanF n I (nv s)) ∧ l.length ≤ 3 + 40000 * q) (fun _ i _ => I.toNat + 1 - (intOf i).toNat)
  case atStart => exact ⟨0, I.toNat, [], none, 0, by omega, rfl, rfl, HO1, S0.out, HT1, by simp⟩
  case round =>
    clear HO1 S0 HT1
    obtain ⟨q, m, l, A, c, hqm, rfl, rfl, HO, hS, HT, hln⟩ := hrel
    have S := Lib.hid hS
    clear hS
    have HX := Lib.hid (fun (W : World) (hb : Below w.heap.size w W) => HI.out W hb ((q : Int) + 1))
    by_cases hq : (q : Int) + 1 ≤ I
    · obtain ⟨m, rfl⟩ : ∃ m', m = m' + 1 := ⟨m - 1, by omega⟩
      unfold Fs.inodeF at HX
      rw [if_pos ⟨by omega, hq⟩] at HX
      unfold exV at HX
      obtain ⟨x, hx⟩ : ∃ x, x = Fs.inoAt (nv s) ((q : Int) + 1) := ⟨_, rfl⟩
      rw [← hx] at HX
      have HXE := Lib.hid hx
      clear hx
      obtain ⟨t0, er0, e0, e0', l0⟩ := cln_read n I ((q : Int) + 1) 0 (nv s) HT0.out
      obtain ⟨t1, er1, e1, e1', l1'⟩ := cln_read n I ((q : Int) + 1) (max (x.s - 300) 0) (nv s) HT0.out
      have E0 : Hid (Fs.clnPart n I ((q : Int) + 1) 0 (nv s) = t0) := Lib.hid e0'
      have E1 : Hid (Fs.clnPart n I ((q : Int) + 1) (max (x.s - 300) 0) (nv s) = t1) := Lib.hid e1'
      have L0 := Lib.hid l0
      have L1 := Lib.hid l1'
      have hs0 : 0 ≤ x.s ∧ x.s < 4294967296 := by rw [HXE.out]; exact ino_size _ _
      have HR0 := Lib.hid (fun (W : World) (hb : Below w.heap.size w W) => HRD.out W hb ((q : Int) + 1) (max 0 0) (by omega))
      have HR1 := Lib.hid (fun (W : World) (hb : Below w.heap.size w W) => HRD.out W hb ((q : Int) + 1) (max (x.s - 300) 0) (by omega))
      rw [show (max 0 0 : Int) = 0 from rfl, e0] at HR0
      rw [e1] at HR1
      have hs1 : IntKind.i64.wrap (x.s - 300) = x.s - 300 := IntWalk.i64_in _ (by omega)
      clear e0 e1 e0' e1' l0 l1'
      obtain hk | hk | hk : x.k = 0 ∨ (x.k ≠ 0 ∧ x.l = 0) ∨ (x.k ≠ 0 ∧ x.l ≠ 0) := by omega
      all_goals
        have HK := Lib.hid hk
        clear hk
      · go_wp2_with (first
          | (go_at_call 31; refine (HP.out _ S.out.bel).mono ?_; rintro e w5 ⟨rfl, hb⟩; replace HO := Lib.hid (own_below HO.out hb); replace S := Lib.hid (S.out.below hb); clear hb)
          | (go_at_call 26; refine (HX.out _ S.out.bel).mono ?_; rintro e w6 ⟨rfl, hb⟩; replace HO := Lib.hid (own_below HO.out hb); replace S := Lib.hid (S.out.below hb); clear hb)
          | ((with_reducible refine wpList_store_newrow (vs := inoL x) inoT ?_ (inoL_one _) rfl (.tmp 5) (.tmp 22) rfl rfl ?_ ?_ ?_); (exact rfl); (exact rfl); (exact rfl); intro W4 hP hB2 hz2; have S2 := Lib.hid (S.out.made hP hB2 hz2); have HO2 := Lib.hid (own_below HO.out hB2); clear hP hB2 hz2; have c0 := (S2.out.get 0 _ rfl).cell 0 _ rfl; have c1 := (S2.out.get 0 _ rfl).cell 1 _ rfl; have c2 := (S2.out.get 0 _ rfl).cell 2 _ rfl; have c3 := (S2.out.get 0 _ rfl).cell 3 _ rfl; have c4 := (S2.out.get 0 _ rfl).cell 4 _ rfl; have HNW := Lib.hid (cln_zero W4); have HO3 := Lib.hid (HO2.out.alloc (.cells #[.int .u8 0] 5)); have S3 := Lib.hid (S2.out.skip (.cells #[.int .u8 0] 5)); have HSZ := Lib.hid S3.out.bel.size; have HLT := Lib.hid (fun j hj => HO.out.lt j hj); have hk := HK.out)
          | (at_builtin; go_must (refine wpList_append_own_at _ rfl (.tmp 32) (.tmp 33) 48 rfl w.heap.size 5 i0 _ 1 1 Tryz.underlying48 HI0.out HZ0.out HS0.out HB0.out rfl (by omega) _ l.length _ rfl HO3.out ⟨W4.heap.size, 0, none⟩ 1 1 (byteVals [0]) rfl rfl HNW.out (byteVals_one _) (by unfold maxLen; omega) (by omega) HSZ.out ?_; intro v' w7 hown' hgrow hnil hloc; obtain ⟨A', c', rfl⟩ := owns_slice hown'; have S4 := Lib.hid (S3.out.grown hgrow (fun j hj => ⟨(HO3.out.lt j hj).1, fun x hx => by simp only [List.nil_append, List.mem_singleton] at hx; subst hx; have := (HLT.out j hj).2; simp only; omega⟩)); have HO4 := Lib.hid hown'; clear hown' hgrow hnil hloc; replace c0 := (S4.out.get 0 _ rfl).cell 0 _ rfl; replace c4 := (S4.out.get 0 _ rfl).cell 4 _ rfl)))
        have HT2 : Hid ((l ++ [0]) ++ Fs.clnG n I (nv s) m (((q + 1 : Nat) : Int) + 1) = Fs.cleanF n I (nv s)) := Lib.hid (by
          rw [← HT.out, Fs.clnG]
          unfold Fs.clnI
          rw [← HXE.out, if_pos (Or.inl HK.out), List.append_assoc]
          congr 3)
        have HO5 := Lib.hid (own_app HO4.out (t := [0]) rfl)
        go_roundw
        case rel => exact ⟨q + 1, m, l ++ [0], A', c', by omega, by go_num, (by rw [List.length_append]; rfl), HO5, S4.out.cut 0, HT2, by rw [List.length_append]; have : ([0] : List UInt8).length = 1 := rfl; omega⟩
        case measure => simp [intOf]; omega
      · go_wp2_with (first
          | (go_at_call 31; refine (HP.out _ S.out.bel).mono ?_; rintro e w5 ⟨rfl, hb⟩; replace HO := Lib.hid (own_below HO.out hb); replace S := Lib.hid (S.out.below hb); clear hb)
          | (go_at_call 26; refine (HX.out _ S.out.bel).mono ?_; rintro e w6 ⟨rfl, hb⟩; replace HO := Lib.hid (own_below HO.out hb); replace S := Lib.hid (S.out.below hb); clear hb)
          | ((with_reducible refine wpList_store_newrow (vs := inoL x) inoT ?_ (inoL_one _) rfl (.tmp 5) (.tmp 22) rfl rfl ?_ ?_ ?_); (exact rfl); (exact rfl); (exact rfl); intro W4 hP hB2 hz2; have S2 := Lib.hid (S.out.made hP hB2 hz2); have HO2 := Lib.hid (own_below HO.out hB2); clear hP hB2 hz2; have c0 := (S2.out.get 0 _ rfl).cell 0 _ rfl; have c1 := (S2.out.get 0 _ rfl).cell 1 _ rfl; have c2 := (S2.out.get 0 _ rfl).cell 2 _ rfl; have c3 := (S2.out.get 0 _ rfl).cell 3 _ rfl; have c4 := (S2.out.get 0 _ rfl).cell 4 _ rfl; have HNW := Lib.hid (cln_zero W4); have HO3 := Lib.hid (HO2.out.alloc (.cells #[.int .u8 0] 5)); have S3 := Lib.hid (S2.out.skip (.cells #[.int .u8 0] 5)); have HSZ := Lib.hid S3.out.bel.size; have HLT := Lib.hid (fun j hj => HO.out.lt j hj); obtain ⟨hk, hl⟩ := HK.out)
          | (at_builtin; go_must (refine wpList_append_own_at _ rfl (.tmp 32) (.tmp 33) 48 rfl w.heap.size 5 i0 _ 1 1 Tryz.underlying48 HI0.out HZ0.out HS0.out HB0.out rfl (by omega) _ l.length _ rfl HO3.out ⟨W4.heap.size, 0, none⟩ 1 1 (byteVals [0]) rfl rfl HNW.out (byteVals_one _) (by unfold maxLen; omega) (by omega) HSZ.out ?_; intro v' w7 hown' hgrow hnil hloc; obtain ⟨A', c', rfl⟩ := owns_slice hown'; have S4 := Lib.hid (S3.out.grown hgrow (fun j hj => ⟨(HO3.out.lt j hj).1, fun x hx => by simp only [List.nil_append, List.mem_singleton] at hx; subst hx; have := (HLT.out j hj).2; simp only; omega⟩)); have HO4 := Lib.hid hown'; clear hown' hgrow hnil hloc; replace c0 := (S4.out.get 0 _ rfl).cell 0 _ rfl; replace c4 := (S4.out.get 0 _ rfl).cell 4 _ rfl)))
        have HT2 : Hid ((l ++ [0]) ++ Fs.clnG n I (nv s) m (((q + 1 : Nat) : Int) + 1) = Fs.cleanF n I (nv s)) := Lib.hid (by
          rw [← HT.out, Fs.clnG]
          unfold Fs.clnI
          rw [← HXE.out, if_pos (Or.inr HK.out.2), List.append_assoc]
          congr 3)
        have HO5 := Lib.hid (own_app HO4.out (t := [0]) rfl)
        go_roundw
        case rel => exact ⟨q + 1, m, l ++ [0], A', c', by omega, by go_num, (by rw [List.length_append]; rfl), HO5, S4.out.cut 0, HT2, by rw [List.length_append]; have : ([0] : List UInt8).length = 1 := rfl; omega⟩
        case measure => simp [intOf]; omega
      · go_wp2_with (first
          | (go_at_call 31; refine (HP.out _ S.out.bel).mono ?_; rintro e w5 ⟨rfl, hb⟩; replace HO := Lib.hid (own_below HO.out hb); replace S := Lib.hid (S.out.below hb); clear hb)
          | (go_at_call 26; refine (HX.out _ S.out.bel).mono ?_; rintro e w6 ⟨rfl, hb⟩; replace HO := Lib.hid (own_below HO.out hb); replace S := Lib.hid (S.out.below hb); clear hb)
          | ((with_reducible refine wpList_store_newrow (vs := inoL x) inoT ?_ (inoL_one _) rfl (.tmp 5) (.tmp 22) rfl rfl ?_ ?_ ?_); (exact rfl); (exact rfl); (exact rfl); intro W4 hP hB2 hz2; have S2 := Lib.hid (S.out.made hP hB2 hz2); have HO2 := Lib.hid (own_below HO.out hB2); clear hP hB2 hz2; have c0 := (S2.out.get 0 _ rfl).cell 0 _ rfl; have c1 := (S2.out.get 0 _ rfl).cell 1 _ rfl; have c2 := (S2.out.get 0 _ rfl).cell 2 _ rfl; have c3 := (S2.out.get 0 _ rfl).cell 3 _ rfl; have c4 := (S2.out.get 0 _ rfl).cell 4 _ rfl; have HNW := Lib.hid (cln_new W4 x); have HO3 := Lib.hid (HO2.out.alloc (.cells #[.int .u8 (x.k % 256), .int .u8 (x.p % 256), .int .u8 (x.p / 256 % 256), .int .u8 (x.u % 256), .int .u8 (x.u / 256 % 256), .int .u8 (x.l % 256), .int .u8 (x.s % 256), .int .u8 (x.s / 256 % 256), .int .u8 (x.s / 65536 % 256)] 5)); have S3 := Lib.hid (S2.out.skip (.cells #[.int .u8 (x.k % 256), .int .u8 (x.p % 256), .int .u8 (x.p / 256 % 256), .int .u8 (x.u % 256), .int .u8 (x.u / 256 % 256), .int .u8 (x.l % 256), .int .u8 (x.s % 256), .int .u8 (x.s / 256 % 256), .int .u8 (x.s / 65536 % 256)] 5)); have HSZ := Lib.hid S3.out.bel.size; have HLT := Lib.hid (fun j hj => HO.out.lt j hj); obtain ⟨hk, hl⟩ := HK.out; have gk : (x.k == 0) = false := (by simpa using hk); have gl : (x.l == 0) = false := (by simpa using hl))
          | (at_builtin; go_must (refine wpList_append_own_at _ rfl (.tmp 35) (.tmp 67) 48 rfl w.heap.size 5 i0 _ 1 1 Tryz.underlying48 HI0.out HZ0.out HS0.out HB0.out rfl (by omega) _ l.length _ rfl HO3.out ⟨W4.heap.size, 0, none⟩ 9 9 (byteVals (Fs.clnHead x)) rfl rfl HNW.out (byteVals_one _) (by unfold maxLen; omega) (by omega) HSZ.out ?_; intro v' w7 hown' hgrow hnil hloc; obtain ⟨A', c', rfl⟩ := owns_slice hown'; have S4 := Lib.hid (S3.out.grown hgrow (fun j hj => ⟨(HO3.out.lt j hj).1, fun x hx => by simp only [List.nil_append, List.mem_singleton] at hx; subst hx; have := (HLT.out j hj).2; simp only; omega⟩)); have HO4 := Lib.hid hown'; clear hown' hgrow hnil hloc; replace c0 := (S4.out.get 0 _ rfl).cell 0 _ rfl; replace c4 := (S4.out.get 0 _ rfl).cell 4 _ rfl)))
        generalize hP : w7.heap.size = P
        have HH : Hid ((w7.alloc (Obj.cells #[Value.int IntKind.i64 0, Value.int IntKind.i64 (x.s - 300)] 3)).heap[P]? = some (.cells #[.int .i64 0, .int .i64 (x.s - 300)] 3 (0, 0))) := Lib.hid (by rw [← hP]; exact heap_alloc_new w7 _)
        have HO5 := Lib.hid ((own_app HO4.out (t := Fs.clnHead x) rfl).alloc (Obj.cells #[Value.int IntKind.i64 0, Value.int IntKind.i64 (x.s - 300)] 3))
        have S5 := Lib.hid ((S4.out.cut 0).skip (Obj.cells #[Value.int IntKind.i64 0, Value.int IntKind.i64 (x.s - 300)] 3))
        have HT5 : Hid ((l ++ Fs.clnHead x) ++ ((([t0, t1].drop 0).flatten) ++ Fs.clnG n I (nv s) m (((q + 1 : Nat) : Int) + 1)) = Fs.cleanF n I (nv s)) := Lib.hid (by
          rw [← HT.out, Fs.clnG]
          unfold Fs.clnI
          rw [← HXE.out, if_neg (by have := HK.out; omega), E0.out, E1.out]
          have : ((q + 1 : Nat) : Int) + 1 = (q : Int) + 1 + 1 := by omega
          rw [this]
          simp)
        have HLQ : Hid ((l ++ Fs.clnHead x).length = l.length + 9) := Lib.hid (by rw [List.length_append]; rfl)
        clear c0 c1 c2 c3 c4 hk hl gk gl HO HO2 HO3 HO4 HNW HT S S2 S3 S4 HSZ HLT hP
        generalize hW5 : World.alloc w7 _ = W5 at HH HO5 S5 ⊢
        clear hW5
        go_loopw [3, 74] (fun sl at1 wr => ∃ (j : Nat) (l2 : List UInt8) (A : Option Addr) (c : Nat), j ≤ 2 ∧ at1 = .int .i64 (j : Int) ∧ sl = .slice A l2.length c ∧ Hid (wr.ownsRow w.heap.size 5 1 (.slice A l2.length c) l2.length (byteVals l2)) ∧ Lo [] w [] wr ∧ Hid (wr.heap[P]? = some (.cells #[.int .i64 0, .int .i64 (x.s - 300)] 3 (0, 0))) ∧ Hid (l2 ++ ((([t0, t1].drop j).flatten) ++ Fs.clnG n I (nv s) m (((q + 1 : Nat) : Int) + 1)) = Fs.cleanF n I (nv s)) ∧ l2.length ≤ 13 + 40000 * q + 19201 * j) (fun _ at1 _ => 2 - (intOf at1).toNat)
        case atStart => exact ⟨0, l ++ Fs.clnHead x, A', c', by omega, rfl, (by rw [HLQ.out]), HO5, S5.out, HH, HT5, by rw [HLQ.out]; omega⟩
        case round =>
          clear HO5 S5 HH HT5
          obtain ⟨j, l2, A2, c2, hj, rfl, rfl, HO, hS, HH, HT, hl2⟩ := hrel
          have S := Lib.hid hS
          clear hS
          by_cases hj2 : j < 2
          · obtain ⟨off, t, er, hcell, hread, hrest, htl, ho1, ho2⟩ : ∃ (off : Int) (t : List UInt8) (er : Int), (#[.int .i64 0, .int .i64 (x.s - 300)] : Array Value)[j]? = some (.int .i64 off) ∧ (∀ (W : World), Below w.heap.size w W → Calls Tryz.prog 27 #[.pointer (some ⟨V, 0, none⟩), .int .i64 ((q : Int) + 1), .int .i64 (max off 0), .int .i64 300] W fun e w' => e = .returned (.tuple #[.string (strOf t), .int .i64 er]) ∧ Below W.heap.size W w') ∧ ([t0, t1].drop j).flatten = t ++ ([t0, t1].drop (j + 1)).flatten ∧ t.length ≤ 19200 ∧ -9223372036854775808 ≤ off ∧ off ≤ 9223372036854775807 := by
              rcases (show j = 0 ∨ j = 1 by omega) with rfl | rfl
              · exact ⟨0, t0, er0, rfl, HR0.out, rfl, L0.out, by omega, by omega⟩
              · exact ⟨x.s - 300, t1, er1, rfl, HR1.out, by simp, L1.out, by omega, by omega⟩
            have HRR := Lib.hid hread
            have HC := Lib.hid hcell
            have HRS := Lib.hid hrest
            clear hread hrest hcell
            have cj : wr.cell? ⟨P, j, none⟩ = some (.int .i64 off) := by rw [Lib.cell_of_heap HH.out]; exact HC.out
            have HSZ : Hid ((strOf t).size = t.length) := Lib.hid (str_size t)
            generalize hst : strOf t = st at HRR HSZ
            have HST : Hid (Lib.strCells st = byteVals t) := Lib.hid (by rw [strCells_byteVals, ← hst]; rfl)
            clear hst
            go_wp2_with (first
              | (go_at_call 27; refine (HRR.out _ S.out.bel).mono ?_; rintro e w6 ⟨rfl, hb⟩; replace HO := Lib.hid (own_below HO.out hb); replace HH := Lib.hid ((hb.block P (Array.getElem?_eq_some_iff.1 HH.out).1).trans HH.out); replace S := Lib.hid (S.out.below hb); clear hb; have HSW := Lib.hid S.out.bel.size)
              | (at_builtin; go_must (refine Lib.wpList_append_own_string _ rfl (.tmp 86) (.tmp 87) 48 9 rfl w.heap.size 5 i0 Tryz.underlying48 Tryz.underlying9 HI0.out HZ0.out HS0.out HB0.out _ l2.length _ rfl HO.out st rfl (by unfold maxLen; have := HSZ.out; omega) (by have := HSZ.out; omega) HSW.out ?_; intro v' w8 hown' hgrow hnil; obtain ⟨A8, c8, rfl⟩ := owns_slice hown'; have S8 := Lib.hid (S.out.grown hgrow (fun j hj => ⟨(HO.out.lt j hj).1, fun x hx => by simp at hx⟩)); have HH8 := Lib.hid (heap_grown hgrow HH.out (own_ne HO.out HH.out (by decide))); have HO8 := Lib.hid (own_app (l := l2) (t := t) (k := st.size) (by rw [← HST.out]; exact hown') HSZ.out.symm); clear hown' hgrow hnil)))
            have HT8 : Hid ((l2 ++ t) ++ ((([t0, t1].drop (j + 1)).flatten) ++ Fs.clnG n I (nv s) m (((q + 1 : Nat) : Int) + 1)) = Fs.cleanF n I (nv s)) := Lib.hid (by rw [← HT.out, HRS.out]; simp only [List.append_assoc])
            have HL8 : Hid ((l2 ++ t).length = l2.length + st.size) := Lib.hid (by rw [List.length_append, HSZ.out])
            go_roundw
            case rel => exact ⟨j + 1, l2 ++ t, A8, c8, by omega, by go_num, by rw [HL8.out], HO8, S8.out, HH8, HT8, by rw [HL8.out]; have := HSZ.out; omega⟩
            case measure => simp [intOf]; omega
          · obtain rfl : j = 2 := by omega
            go_wp2_with fail
            go_roundw
            case rel => exact ⟨q + 1, m, l2, A2, c2, by omega, by go_num, rfl, HO, S.out, Lib.hid (by have := HT.out; simpa using this), by omega⟩
            case measure => simp [intOf]; omega
    · obtain rfl : m = 0 := by omega
      have HCV : Hid (∀ W, W.ownsRow w.heap.size 5 1 (.slice A l.length c) l.length (byteVals l) → (convert 48 9 (.slice A l.length c)).run Tryz.prog W = .ok (.string (strOf l)) W) := Lib.hid (fun W => own_text)
      have HRES : Hid (l = Fs.cleanF n I (nv s)) := Lib.hid (by have := HT.out; rw [Fs.clnG, List.append_nil] at this; exact this)
      go_wp2_with (first
        | (go_at_call 31; refine (HP.out _ S.out.bel).mono ?_; rintro e w5 ⟨rfl, hb⟩; replace HO := Lib.hid (own_below HO.out hb); replace S := Lib.hid (S.out.below hb); clear hb; have hcv := HCV.out _ HO.out))
      go_ret
      exact ⟨congrArg (fun z => Ending.returned (.string (strOf z))) HRES.out, S.out.bel⟩
end

namespace Fs
open Dk (zeros zeros_length)
open Ii (Ino)
def Dat (n I : Int) (V V' : View) : Prop := ∀ m, isData n I m → V' m.toNat = V m.toNat
section
variable {n I : Int} {V V' : View}
theorem Dat.data (h : Dat n I V V') (m : Int) : dataF n I m V' = dataF n I m V := by
  unfold dataF
  split
  · rfl
  · split
    · next c => rw [h m c]
    · rfl
theorem Dat.goF (h : Dat n I V V') : ∀ (ks : List Int) (m : Int), Fs.goF n I V' ks m = Fs.goF n I V ks m
  | [], _ => rfl
  | k :: ks, m => by
    rw [Fs.goF, Fs.goF, h.data m]
    cases dataF n I m V with
    | ok p => exact Dat.goF h ks _
    | error e => rfl
theorem Dat.page (h : Dat n I V V') (x : Ino) (i : Int) : pageF n I x i V' = pageF n I x i V := by
  unfold pageF findF
  rw [h.goF]
  cases Fs.goF n I V (placesN i) (firstN x i) with
  | ok m => exact h.data m
  | error e => rfl
theorem Dat.readG (h : Dat n I V V') (x : Ino) : ∀ cs : List Pc, Fs.readG n I x V' cs = Fs.readG n I x V cs
  | [] => (readG_nil n I x V').trans (readG_nil n I x V).symm
  | c :: cs => by
    have e := Dat.readG h x cs
    have e2 := h.page x c.idx
    exact (readG_cons n I x V' c cs).trans ((congrArg (readC textC c · _) e).trans ((congrArg (readC textC c _) e2).trans (readG_cons n I x V c cs).symm))
theorem Dat.clnPart (h : Dat n I V V') {i : Int} (hi : inoAt V' i = inoAt V i) (at1 : Int) : Fs.clnPart n I i at1 V' = Fs.clnPart n I i at1 V := by
  have e : takenF I i V' = takenF I i V := by unfold takenF; rw [hi]
  have e2 : readF n I i at1 300 V' = readF n I i at1 300 V := by
    unfold readF
    rw [e]
    cases takenF I i V with
    | error e => rfl
    | ok x =>
      simp only
      split
      · rfl
      · exact h.readG x _
  unfold Fs.clnPart
  rw [e2]
theorem Dat.clnI (h : Dat n I V V') {i : Int} (hi : inoAt V' i = inoAt V i ∨ (((inoAt V' i).k = 0 ∨ (inoAt V' i).l = 0) ∧ ((inoAt V i).k = 0 ∨ (inoAt V i).l = 0))) : Fs.clnI n I i V' = Fs.clnI n I i V := by
  unfold Fs.clnI
  rcases hi with hi | ⟨h1, h2⟩
  · rw [hi, h.clnPart hi, h.clnPart hi]
  · rw [if_pos h1, if_pos h2]
theorem Dat.clnG (h : Dat n I V V') (hi : ∀ i, 1 ≤ i → i ≤ I → inoAt V' i = inoAt V i ∨ (((inoAt V' i).k = 0 ∨ (inoAt V' i).l = 0) ∧ ((inoAt V i).k = 0 ∨ (inoAt V i).l = 0))) : ∀ (c : Nat) (i : Int), 1 ≤ i → i + c ≤ I + 1 → Fs.clnG n I V' c i = Fs.clnG n I V c i
  | 0, _, _, _ => rfl
  | c + 1, i, h1, h2 => by
    rw [Fs.clnG, Fs.clnG, h.clnI (hi i h1 (by omega)), Dat.clnG h hi c (i + 1) (by omega) (by omega)]
theorem Dat.clean (h : Dat n I V V') (hI : 1 ≤ I) (hi : ∀ i, 1 ≤ i → i ≤ I → inoAt V' i = inoAt V i ∨ (((inoAt V' i).k = 0 ∨ (inoAt V' i).l = 0) ∧ ((inoAt V i).k = 0 ∨ (inoAt V i).l = 0))) : cleanF n I V' = cleanF n I V := h.clnG hi I.toNat 1 (by omega) (by omega)
end
section
variable {n I : Int} (hpl : Pl.rightB n I = true)
include hpl
theorem loc_clean {V V' : View} (h : Eqv n V V') : cleanF n I V = cleanF n I V' := by
  obtain ⟨b1, b2, b3, b4, b5, b6, b7⟩ := pl_bd hpl
  exact (Dat.clean (V := V) (V' := V') (fun m hm => (h m.toNat (by unfold isData at hm; omega) (by unfold isData at hm; omega)).symm) b1 fun i h1 h2 => Or.inl (loc_ino hpl h1 h2 V V' h).symm).symm
omit hpl in
theorem frame_cut : ∀ (d : Nat) (m frm : Int), Frame (cutM n I d m frm) := by
  intro d
  induction d with
  | zero =>
    intro m frm
    unfold cutM
    exact frame_ite (frame_ret _) (frame_ite (frame_andThen (frame_mark _ _ _) fun _ => frame_ret _) (frame_ret _))
  | succ d ih =>
    intro m frm
    unfold cutM
    have loop : ∀ (c k : Nat) (was p : List UInt8), Frame (cutLoop (cutM n I d) (32 ^ d) frm was k c p) := by
      intro c
      induction c with
      | zero => intro k was p; exact frame_ret p
      | succ c ihc =>
        intro k was p
        unfold cutLoop
        exact frame_andThen (ih _ _) fun y => ihc _ _ _
    refine frame_ite (frame_ret _) (frame_ite (frame_andThen ?_ fun left => frame_ite (frame_ret _) (frame_andThen (frame_mark _ _ _) fun _ => frame_ret _)) (frame_ret _))
    unfold cutNums
    exact frame_andThen (frame_see _) fun was => frame_andThen (loop _ _ _ _) fun p => frame_ite (frame_ret _) (frame_ite (frame_ret _) (frame_andThen (frame_wr _ _) fun _ => frame_ret _))
theorem cutFile0 (x : Ino) (V : View) (hV : LenV n I V) : ∃ y V1 L1, cutFile n I x 0 V = (.ok y, V1, L1) ∧ (∀ j, j ≠ 0 → j ≠ 42 → V1 j = V j) ∧ LenV n I V1 := by
  obtain ⟨b1, b2, b3, b4, b5, b6, b7⟩ := pl_bd hpl
  have step : ∀ (d : Nat) (m frm : Int) (V : View), frm ≤ 0 → LenV n I V → ∃ V1 L1, cutM n I d m frm V = (.ok 0, V1, L1) ∧ (∀ j, j ≠ 0 → j ≠ 42 → V1 j = V j) ∧ LenV n I V1 := fun d m frm V hf hV => by
    obtain ⟨V1, L1, e, c, v⟩ := cut0 b5 d m frm V hf hV
    refine ⟨V1, L1, e, fun j h1 h2 => ?_, v⟩
    have := frame_cut (n := n) (I := I) d m frm V j (fun hj => by
      rw [e] at hj
      rcases c j hj with q | q | q
      · exact h1 q
      · exact h2 q
      · cases q)
    rw [e] at this
    exact this
  obtain ⟨V1, L1, e1, f1, v1⟩ := step 0 x.a 0 V (by omega) hV
  obtain ⟨V2, L2, e2, f2, v2⟩ := step 0 x.b (0 - 1) V1 (by omega) v1
  obtain ⟨V3, L3, e3, f3, v3⟩ := step 0 x.c (0 - 2) V2 (by omega) v2
  obtain ⟨V4, L4, e4, f4, v4⟩ := step 0 x.d (0 - 3) V3 (by omega) v3
  obtain ⟨V5, L5, e5, f5, v5⟩ := step 1 x.e (0 - 4) V4 (by omega) v4
  obtain ⟨V6, L6, e6, f6, v6⟩ := step 2 x.f (0 - 36) V5 (by omega) v5
  unfold cutFile
  rw [andThen_ok e1, andThen_ok e2, andThen_ok e3, andThen_ok e4, andThen_ok e5, andThen_ok e6]
  exact ⟨_, _, _, rfl, fun j h1 h2 => (f6 j h1 h2).trans ((f5 j h1 h2).trans ((f4 j h1 h2).trans ((f3 j h1 h2).trans ((f2 j h1 h2).trans (f1 j h1 h2))))), v6⟩
omit hpl in
theorem setI_ok (i : Int) (x : Ino) (V : View) : (setI i x V).1 = .ok () := by
  by_cases c : Ii.putN (V (tbl i)) (halfAt i) x = V (tbl i)
  · rw [show setI i x V = ret () V from if_pos c]; rfl
  · rw [show setI i x V = wr (tbl i) (Ii.putN (V (tbl i)) (halfAt i) x) V from if_neg c]; rfl
omit hpl in
theorem setI_far {i : Int} (x : Ino) (V : View) {j : Nat} (hj : j ≠ tbl i) : (setI i x V).2.1 j = V j := by
  by_cases c : Ii.putN (V (tbl i)) (halfAt i) x = V (tbl i)
  · rw [show setI i x V = ret () V from if_pos c]; rfl
  · rw [show setI i x V = wr (tbl i) (Ii.putN (V (tbl i)) (halfAt i) x) V from if_neg c]
    show upd V (tbl i) _ j = V j
    unfold upd
    rw [if_neg hj]
theorem rel_clean {i : Int} (h1 : 1 ≤ i) (h2 : i ≤ I) {V : View} (hV : LenV n I V) (hT : LenT I V) (hk : (inoAt V i).k ≠ 0) (hl : (inoAt V i).l = 0) : ∃ V' L, releaseM n I i V = (.ok (), V', L) ∧ cleanF n I V' = cleanF n I V := by
  obtain ⟨b1, b2, b3, b4, b5, b6, b7⟩ := pl_bd hpl
  have ht : tell (takenF I i) V = (.ok (inoAt V i), V, []) := by
    unfold tell takenF
    rw [if_pos ⟨h1, h2⟩, if_neg hk]
  obtain ⟨y, V1, L1, e1, f1, v1⟩ := cutFile0 hpl (inoAt V i) V hV
  rcases e2 : setI i Ii.zero V1 with ⟨r, V2, L2⟩
  have hr := setI_ok i Ii.zero V1
  rw [e2] at hr
  simp only at hr
  subst hr
  have tb := tbl_bd hpl h1 h2
  have hT1 : LenT I V1 := fun j k1 k2 => by
    have := tbl_bd hpl k1 k2
    rw [f1 _ (by omega) (by omega)]; exact hT j k1 k2
  have ino1 : ∀ j, 1 ≤ j → j ≤ I → inoAt V1 j = inoAt V j := fun j k1 k2 => by
    have := tbl_bd hpl k1 k2
    unfold inoAt
    rw [f1 _ (by omega) (by omega)]
  have ino2 : ∀ j, 1 ≤ j → j ≠ i → inoAt V2 j = inoAt V1 j := fun j k1 k2 => by
    have := setI_other h1 h2 k1 k2 Ii.zero hT1
    rw [e2] at this
    exact this
  have ino3 : (inoAt V2 i).k = 0 := by
    have hs := setI_same h1 h2 Ii.zero hT1
    rw [e2] at hs
    obtain ⟨A, eA, hA⟩ := half_nat i
    have hg := (get_kl (V1 (tbl i)) A Ii.zero (hT1 i h1 h2) (by omega)).1
    rw [eA] at hs
    simp only at hs
    rw [← hs] at hg
    have e0 : Pg.numOf (Pg.bytesN 1 Ii.zero.k) = 0 := by decide
    rw [e0] at hg
    unfold inoAt
    rw [eA, if_pos hg]
    rfl
  have far2 : ∀ j, j ≠ tbl i → V2 j = V1 j := fun j hj => by
    have := setI_far Ii.zero V1 hj
    rw [e2] at this
    exact this
  have e3 : markM 41 (i - 1) false V2 = (.ok (), upd V2 41 (Bt.setB (V2 41) (i - 1) false), [41]) := rfl
  unfold releaseM
  rw [andThen_ok ht, andThen_ok e1, andThen_ok e2, e3]
  refine ⟨_, _, rfl, ?_⟩
  have up : ∀ j, 42 ≤ j → upd V2 41 (Bt.setB (V2 41) (i - 1) false) j = V2 j := fun j hj => by unfold upd; rw [if_neg (by omega)]
  refine Dat.clean (fun m hm => ?_) b1 fun j k1 k2 => ?_
  · unfold isData at hm
    simp only
    rw [up _ (by omega), far2 _ (by omega), f1 _ (by omega) (by omega)]
  · have tj := tbl_bd hpl k1 k2
    have eu : inoAt (upd V2 41 (Bt.setB (V2 41) (i - 1) false)) j = inoAt V2 j := by
      unfold inoAt
      rw [up _ (by omega)]
    simp only
    rw [eu]
    by_cases q : j = i
    · subst q
      exact Or.inr ⟨Or.inl ino3, Or.inr hl⟩
    · exact Or.inl ((ino2 j k1 q).trans (ino1 j k1 k2))
end
end Fs

section
open Dk (zeros zeros_length)
open Ii (Ino)
namespace Fs
section
variable {n I : Int} (hpl : Pl.rightB n I = true)
include hpl
end
end Fs
section
variable {α : Type} {s u : Sto} {n I : Int} {k k' : Nat} {m : Fs.M α}
theorem Calm.pure (h : Calm u n I k) (hk : k ≤ 100) (hc : Fs.Cv m (nv u) 34) {er : Int} {u2 : Sto} {a : Option α} (ht : StepTo n I u m er u2 a) :
    Calm u2 n I (k + 1) ∧ ((∃ x V L, m (nv u) = (.ok x, V, L) ∧ er = 0 ∧ ∀ i, Out n i → nv u2 i = V i) ∨ (∃ V L, m (nv u) = (.error er, V, L) ∧ er ≠ 0 ∧ u2 = u)) := by
  obtain ⟨q, h1⟩ := h.step hk ht
  refine ⟨q, ?_⟩
  rcases h1 with ⟨x, V, L, e, e1, _, e2⟩ | ⟨f, h0, _, e2⟩
  · exact Or.inl ⟨x, V, L, e, e1, e2⟩
  · obtain ⟨V, L, e⟩ := room_step h.vs h.idle f hc
    exact Or.inr ⟨V, L, e, h0, e2⟩
end
section
variable {n I : Int} {fl : Bool} {os : List Fop} {V0 U : Fs.View} {k : Nat} {o : Fop}
end
end

section
open Go.RowKit Go.Maps
open Dk (zeros zeros_length)
open Ii (Ino)
open Hd (pageH)
open Jn (Chg quietH Cl Quiet LiveD May Same upd)
theorem good_open2 {w : World} {d l m r : Nat} {s : Dk.St} {B : Int} {cs : List Chg} {X : List (List UInt8)} (h : DiskAt w d l m s) (hc : Cl s) (hlim : s.lim = false) (hg : Good false 1 40 B cs X s.last) (h0 : 0 ≤ B) (hB : B < 250) (hroom : RoomIs 40 r) (hr : 1 ≤ r) (hr9 : r ≤ 900) (hcr : cs.length ≤ r) (hreg : 1 + 40 ≤ s.last.length) :
    ∃ (R : Dk.St × Int) (P : Int → Int → Prop), Calls Tryz.prog 104 #[.pointer (some ⟨d, 0, none⟩), .int .i64 ((1 : Nat) : Int), .int .i64 ((40 : Nat) : Int)] w (Opened w d l m 1 40 R P) ∧ R.1.last.length = s.last.length ∧
      R.2 = 0 ∧ Cl R.1 ∧ R.1.lim = false ∧ Fine false 1 40 cs X R.1.last ∧ ∀ c q, P c q → 0 ≤ q ∧ q ≤ B + 1 ∧ R.1.last.getD 1 [] = pageH (quietH q) := by
  have quiet : ∀ Y, Quiet 1 40 B s.last Y → ∃ (R : Dk.St × Int) (P : Int → Int → Prop), Calls Tryz.prog 104 #[.pointer (some ⟨d, 0, none⟩), .int .i64 ((1 : Nat) : Int), .int .i64 ((40 : Nat) : Int)] w (Opened w d l m 1 40 R P) ∧ R.1.last.length = s.last.length ∧
      R.2 = 0 ∧ Cl R.1 ∧ R.1.lim = false ∧ Same 1 40 R.1.last Y ∧ ∀ c q, P c q → 0 ≤ q ∧ q ≤ B + 1 ∧ R.1.last.getD 1 [] = pageH (quietH q) := fun Y hq => by
    obtain ⟨n0, n1, n2⟩ := Jn.next_one _ B hq.low h0
    refine ⟨_, _, openQ_any h hc hq h0 hB (by omega) (by omega) (by omega) hroom hr hreg, ?_⟩
    rcases Jn.openQ hc hq (show 1 < s.last.length by omega) (by omega) h0 hB with ⟨e1, e2, e3, e4, e5⟩ | ⟨_, e, _⟩
    · refine ⟨by rw [e4, List.length_set], e1, e2, e5.trans hlim, e3, fun c q hp => ?_⟩
      obtain ⟨_, rfl⟩ := hp
      exact ⟨n0, n1, by rw [e4, List.getD_eq_getElem?_getD, List.getElem?_set_self (by omega)]; rfl⟩
    · rw [hlim] at e; cases e
  rcases hg with ⟨_, hq⟩ | hq | ⟨hm, hl⟩
  · obtain ⟨R, P, g1, g2, g3, g4, g5, g6, g7⟩ := quiet X hq
    exact ⟨R, P, g1, g2, g3, g4, g5, Or.inl ⟨rfl, g6⟩, g7⟩
  · obtain ⟨R, P, g1, g2, g3, g4, g5, g6, g7⟩ := quiet _ hq
    exact ⟨R, P, g1, g2, g3, g4, g5, Or.inr g6, g7⟩
  · obtain ⟨q, q0, q1, hq⟩ := hl.head
    refine ⟨_, _, openL_any h hc hl hm q0 q1 hB hq (by omega) (by omega) hroom hr hr9 hcr, ?_⟩
    rcases Jn.runs_spec [cs, [⟨((1 : Nat) : Int), pageH (quietH (q + 1))⟩]] s hc (fun l hl' => by
        rcases List.mem_cons.1 hl' with rfl | hl'
        · exact hm.val
        · rw [List.mem_singleton] at hl'; subst hl'; exact Jn.val_one (by omega) _) with ⟨a1, a2, a3, a4⟩ | ⟨_, e, _⟩
    · rcases Jn.openL hc hl hm q0 q1 hq hB with ⟨e1, e2, e3⟩ | ⟨_, e, _⟩
      · refine ⟨by rw [a4, Jn.updAll_length], e1, e2, a3.trans hlim, Or.inr e3, fun c q' hp => ?_⟩
        obtain rfl := hp e1
        refine ⟨by omega, by omega, ?_⟩
        rw [a4]
        show (upd (upd s.last cs) [⟨((1 : Nat) : Int), pageH (quietH (q + 1))⟩]).getD 1 [] = _
        exact Jn.upd_one_at (by rw [Jn.upd_length]; omega) _
      · rw [hlim] at e; cases e
    · rw [hlim] at e; cases e
def Has (n I : Int) (sts : List (List UInt8)) (sure : Nat) (V : Fs.View) : Prop := Fs.Nice n I V ∧ ∃ k, sure ≤ k ∧ k < sts.length ∧ Fs.cleanF n I V = sts.getD k []
section
variable {n I : Int} (hpl : Pl.rightB n I = true)
include hpl
omit hpl in
theorem out_eqv {V V' : Fs.View} (h : ∀ i, Out n i → V' i = V i) : Fs.Eqv n V' V := fun i h1 h2 => h i ⟨h2, Or.inr h1⟩
theorem nice_out {V V' : Fs.View} (h : ∀ i, Out n i → V' i = V i) (k : Fs.Nice n I V) : Fs.Nice n I V' := by
  obtain ⟨b1, b2, b3, b4, b5, b6, b7⟩ := Fs.pl_bd hpl
  have e : Fs.inoAt V' 1 = Fs.inoAt V 1 := Fs.loc_ino hpl (by omega) b1 V' V (out_eqv h)
  exact ⟨(h 0 ⟨by omega, Or.inl rfl⟩).trans k.super, by rw [e]; exact k.kind, by rw [e]; exact k.links⟩
theorem has_out {sts : List (List UInt8)} {sure : Nat} {V V' : Fs.View} (h : ∀ i, Out n i → V' i = V i) (k : Has n I sts sure V) : Has n I sts sure V' := by
  obtain ⟨k1, j, j1, j2, j3⟩ := k
  exact ⟨nice_out hpl h k1, j, j1, j2, by rw [Fs.loc_clean hpl (out_eqv h)]; exact j3⟩
theorem Vs.lenT {s : Sto} (v : Vs s n I) : Fs.LenT I (nv s) := fun i h1 h2 => by
  obtain ⟨b1, b2, b3, b4, b5, b6, b7⟩ := Fs.pl_bd hpl
  have ht := Fs.tbl_bd hpl h1 h2
  exact (v.read (i := (Fs.tbl i : Int)) ⟨by omega, by omega, by omega⟩).2.2
def TJ (n I : Int) (C : List UInt8) (k : Nat) (s : Sto) : Prop := (k : Int) ≤ I ∧ Calm s n I (55 + k) ∧ Fs.cleanF n I (nv s) = C
theorem tidyJ (C : List UInt8) (hI : I ≤ 40) : TidyJ n I (TJ n I C) where
  vs := fun k s h => ⟨h.2.1.vs, by have := h.2.1.q; have := h.1; omega⟩
  skip := fun k s h hk _ => ⟨by omega, ⟨h.2.1.vs, h.2.1.idle, by have := h.2.1.q; omega, h.2.1.lim⟩, h.2.2⟩
  step := fun k s h hk h1 h2 er s2 a ht => by
    have hl : (Fs.inoAt (nv s) ((k : Int) + 1)).l = 0 := by have := (Fs.ino_links (nv s) ((k : Int) + 1)).1; omega
    obtain ⟨V', L, e, hcl⟩ := Fs.rel_clean hpl (i := (k : Int) + 1) (by omega) hk h.2.1.vs.lenV (h.2.1.vs.lenT hpl) h1 hl
    obtain ⟨q, A⟩ := h.2.1.pure (by omega) ((Fs.cv_release (Fs.pl_bd hpl).2.2.2.2.1 _ _ h.2.1.vs.lenV).mono (by omega)) ht
    rcases A with ⟨x, V2, L2, e2, e3, e4⟩ | ⟨V2, L2, e2, _, _⟩
    · rw [e] at e2
      injection e2 with _ e2
      injection e2 with e2 _
      subst e2
      exact ⟨e3, by omega, q, by rw [Fs.loc_clean hpl (out_eqv e4), hcl]; exact h.2.2⟩
    · rw [e] at e2; cases e2
theorem TJ.sync {C : List UInt8} {k : Nat} {s : Sto} (hk : k ≤ 40) (h : TJ n I C k s) : ssyncE s = 0 ∧ Vs (ssync s) n I ∧ Fs.cleanF n I (nv (ssync s)) = C := by
  have hq := h.2.1.q
  rcases vsync_two h.2.1.vs (by omega) with ⟨e1, e2, e3, e4, e5, e6, _⟩ | ⟨_, e, _⟩
  · refine ⟨e1, e2, ?_⟩
    rw [Fs.loc_clean hpl (V' := nv s) (out_eqv fun i hi => ?_)]
    · exact h.2.2
    · have hi2 : Idle (ssync s) := by unfold Idle; rw [e3, h.2.1.idle, e5]
      rw [idle_nv hi2, noPgs_gv e4, e6 i hi, idle_nv h.2.1.idle]
  · rw [h.2.1.lim] at e; cases e
theorem crash_mount {w : World} {d l m : Nat} {s : Dk.St} {B : Int} {cs : List Chg} {X : List (List UInt8)} {sts : List (List UInt8)} {sure : Nat} (hI : I ≤ 40) (h : DiskAt w d l m s) (hc : Cl s) (hlim : s.lim = false) (hlen : (s.last.length : Int) = n) (hg : Good false 1 40 B cs X s.last) (h0 : 0 ≤ B) (hB : B ≤ 100) (hcr : cs.length ≤ 37)
    (hp : s.last.getD 0 [] = Pl.superP n I) (hst : ∀ L, Fine false 1 40 cs X L → Has n I sts sure (fun i => L.getD i [])) :
    Calls Tryz.prog 24 #[.pointer (some ⟨d, 0, none⟩)] w (VGood w d l m n I (fun s1 => Vs s1 n I ∧ ∃ k, sure ≤ k ∧ k < sts.length ∧ Fs.cleanF n I (nv s1) = sts.getD k [])) := by
  obtain ⟨b1, b2, b3, b4, b5, b6, b7⟩ := Fs.pl_bd hpl
  refine mount_any h hc hlen hp hpl (fun s1 => Calm s1 n I 55 ∧ Has n I sts sure (nv s1)) (fun s1 => Vs s1 n I ∧ ∃ k, sure ≤ k ∧ k < sts.length ∧ Fs.cleanF n I (nv s1) = sts.getD k []) (fun W hW => ?_) (fun s1 h1 => ?_)
  · obtain ⟨R, P, g1, g2, g3, g4, g5, g6, g7⟩ := good_open2 (r := 37) hW hc hlim hg h0 (by omega) room40 (by omega) (by omega) hcr (by omega)
    have hs := hst _ g6
    refine (sopen_any (r := 37) ⟨hW.dlt, hW.llt, hW.mlt⟩ (by rw [g2]; omega) (by omega) (by omega) room40 (by omega) (by omega) (by decide) g1).mono ?_
    rintro e w' ⟨k1, k2, k3⟩
    rcases k3 with ⟨_, b, cnt, q, c1, c2, c3, c4, c5, c6, c7, k4, k5, k6⟩ | ⟨k4, _⟩
    · obtain ⟨q0, q1, q2⟩ := g7 cnt q k5
      have hok : (sto0 R.1 1 40 37 q).Ok := sto0_ok (by decide) (by decide) room40 (by decide) (by decide) (by decide) (by rw [g2]; omega)
      have hvs : Vs (sto0 R.1 1 40 37 q) n I := ⟨⟨hok, rfl, g4, q0, q2⟩, rfl, rfl, rfl, by show (R.1.last.length : Int) = n; rw [g2]; exact hlen, hpl⟩
      have hid : Idle (sto0 R.1 1 40 37 q) := rfl
      exact ⟨b, _, c1, c2, c3, c4, c5, c6, c7, k4, k6, ⟨⟨hvs, hid, by show q ≤ 1 + 2 * ((55 : Nat) : Int); omega, g5⟩, has_out hpl (fun i _ => by rw [idle_nv hid, noPgs_gv (N := R.1.last.length) rfl]; rfl) hs⟩, k2⟩
    · exact absurd g3 k4
  · obtain ⟨hcm, hn, k, j1, j2, j3⟩ := h1
    refine ⟨hcm.vs, hn.kind, hn.links, TJ n I (sts.getD k []), tidyJ hpl _ hI, ⟨by omega, hcm, j3⟩, fun s2 h2 => ?_⟩
    obtain ⟨e1, e2, e3⟩ := h2.sync hpl (by omega)
    exact ⟨e1, e2, k, j1, j2, e3⟩
end
end

section
open Dk (zeros zeros_length)
open Ii (Ino)
open Hd (pageH)
open Jn (Chg quietH Cl Quiet LiveD May Same upd)
theorem ssync_len (s : Sto) : (ssync s).dk.last.length = s.dk.last.length := by
  have hl : (srun s).1.last.length = s.dk.last.length := srun_len s
  unfold ssync
  split
  · rfl
  · split
    · rfl
    · split
      · exact hl
      · exact hl
theorem skeep_len (s : Sto) : (skeep s).dk.last.length = s.dk.last.length := by
  unfold skeep
  split
  · rfl
  · split
    · split
      · show (ssync s).dk.last.length = _
        exact ssync_len s
      · exact ssync_len s
    · rfl
theorem sync_no0 (s : Sto) (hs : s.step.getD 0 none = none) (hg : s.group.getD 0 none = none) : (ssync s).step.getD 0 none = none ∧ (ssync s).group.getD 0 none = none := by
  unfold ssync
  split
  · exact ⟨hs, hg⟩
  · split
    · exact ⟨hs, hg⟩
    · split
      · exact ⟨hs, by show (noPgs _).getD 0 none = none; rw [noPgs_at]⟩
      · exact ⟨hs, hg⟩
theorem join_no0 (s : Sto) (hs : s.step.getD 0 none = none) (hg : s.group.getD 0 none = none) : (sjoin s).group.getD 0 none = none := by
  show (joinP s.group s.step).getD 0 none = none
  by_cases hi : 0 < s.group.length
  · rw [joinP_at _ _ _ hi, hs, hg]; rfl
  · rw [List.getD_eq_getElem?_getD, List.getElem?_eq_none (by rw [joinP_length]; omega)]; rfl
theorem keep_no0 {s : Sto} (hs : s.step.getD 0 none = none) (hg : s.group.getD 0 none = none) : (skeep s).group.getD 0 none = none := by
  unfold skeep
  split
  · exact hg
  · split
    · split
      · obtain ⟨h1, h2⟩ := sync_no0 s hs hg
        exact join_no0 _ h1 h2
      · exact (sync_no0 s hs hg).2
    · exact join_no0 _ hs hg
def lv (s : Sto) : Fs.View := fun i => s.dk.last.getD i []
def Brk (n I : Int) (sts : List (List UInt8)) (sure : Nat) (d : Dk.St) : Prop := d.Ok ∧ ∃ (X : List (List UInt8)) (cs : List Chg) (B : Int), 0 ≤ B ∧ B ≤ 100 ∧ cs.length ≤ 37 ∧ (∀ c ∈ cs, c.no.toNat ≠ 0) ∧ (∀ keep, Good false 1 40 B cs X (Dk.crash d keep).last) ∧ Has n I sts sure (fun i => X.getD i []) ∧ Has n I sts sure (fun i => (upd X cs).getD i [])
structure Up (n I : Int) (m : Nat) (sts : List (List UInt8)) (sure : Nat) (s : Sto) : Prop where
  vs : Vs s n I
  idle : Idle s
  q : s.q ≤ 1 + 2 * (m : Int)
  no0 : s.group.getD 0 none = none
  nice : Fs.Nice n I (nv s)
  now : Fs.cleanF n I (nv s) = sts.getD (sts.length - 1) []
  disk : Has n I sts sure (lv s)
structure Cr (n I : Int) (m : Nat) (sts : List (List UInt8)) (sure : Nat) (s : Sto) : Prop where
  few : sts.length ≤ m + 1
  lt : sure < sts.length
  len : (s.dk.last.length : Int) = n
  two : Up n I m sts sure s ∨ (s.over = true ∧ Brk n I sts sure s.dk)
section
variable {n I : Int} {m : Nat} {sts : List (List UInt8)} {sure : Nat} {s : Sto}
theorem Has.grow {V : Fs.View} (h : Has n I sts sure V) (X : List UInt8) : Has n I (sts ++ [X]) sure V := by
  obtain ⟨h1, k, k1, k2, k3⟩ := h
  refine ⟨h1, k, k1, by rw [List.length_append, List.length_singleton]; omega, ?_⟩
  rw [k3, List.getD_eq_getElem?_getD, List.getD_eq_getElem?_getD, List.getElem?_append_left k2]
theorem last_grow (sts : List (List UInt8)) (X : List UInt8) : (sts ++ [X]).getD ((sts ++ [X]).length - 1) [] = X := by
  rw [List.length_append, List.length_singleton, Nat.add_sub_cancel, List.getD_eq_getElem?_getD, List.getElem?_append_right (Nat.le_refl _), Nat.sub_self]; rfl
theorem Up.has (h : Up n I m sts sure s) (hl : sure < sts.length) : Has n I sts (sts.length - 1) (nv s) ∧ Has n I sts sure (nv s) := ⟨⟨h.nice, sts.length - 1, Nat.le_refl _, by omega, h.now⟩, ⟨h.nice, sts.length - 1, by omega, by omega, h.now⟩⟩
theorem Up.more (h : Up n I m sts sure s) : Up n I (m + 1) sts sure s := ⟨h.vs, h.idle, by have := h.q; omega, h.no0, h.nice, h.now, h.disk⟩
theorem Cr.more (h : Cr n I m sts sure s) : Cr n I (m + 1) sts sure s := ⟨by have := h.few; omega, h.lt, h.len, h.two.imp (fun u => u.more) id⟩
theorem Cr.up (h : Cr n I m sts sure s) (ho : s.over = false) : Up n I m sts sure s := by
  rcases h.two with u | u
  · exact u
  · rw [u.1] at ho; cases ho
section
variable (hpl : Pl.rightB n I = true)
include hpl
theorem Up.brk (h : Up n I m sts sure s) (hl : sure < sts.length) (hm : m ≤ 45) {d : Dk.St} (hd : d.Ok) (hg : ∀ keep, Good false 1 40 (s.q + 2) (chgs s.group) s.dk.last (Dk.crash d keep).last) : Brk n I sts sure d := by
  have hq0 := h.vs.snd.q0
  have hq := h.q
  refine ⟨hd, s.dk.last, chgs s.group, s.q + 2, by omega, by omega, by rw [chgs_length]; have := h.vs.snd.ok.gcnt; rw [h.vs.r] at this; exact this, fun c hc q => ?_, hg, h.disk, ?_⟩
  · obtain ⟨k, k1, k2⟩ := chgs_mem.1 hc
    rw [k1, Int.toNat_natCast] at q
    rw [q, h.no0] at k2
    cases k2
  · refine has_out hpl (fun i _ => ?_) (h.has hl).2
    show (upd s.dk.last (chgs s.group)).getD i [] = nv s i
    rw [upd_gv s h.vs.snd.ok i, idle_nv h.idle]
theorem Cr.step (h : Cr n I m sts sure s) (hup : s.over = false) (hm : m ≤ 45) (o : Fop) (ho : ¬ (o.ino = 1 ∧ (o.k = 1 ∨ o.k = 2))) {er : Int} {s2 : Sto} {a : Option Int} (ht : StepTo n I s (Fs.opM n I o) er s2 a) :
    (er = 0 ∧ Cr n I (m + 1) (sts ++ [Fs.cleanF n I (nv s2)]) sure s2 ∧ Vs s2 n I) ∨ (er ≠ 0 ∧ Cr n I (m + 1) sts sure s2) := by
  have u := h.up hup
  have hq := u.q
  rcases ht with ⟨x, s', L, e, g, v, hz, rfl, rfl, rfl⟩ | ⟨_, h0, rfl, rfl⟩ | ⟨x, s', L, e, g, v, hz, rfl, rfl, rfl⟩
  · obtain ⟨g1, g2, g3, g4, g5⟩ := g.keeps
    rcases vkeep_two v (by rw [g3]; omega) with ⟨_, k2, k3, k4, k5, k6, k7⟩ | ⟨k1, _⟩
    · left
      have hkn := Fs.kn_op hpl o ho u.nice (u.vs.lenT hpl)
      unfold Fs.Kn at hkn
      rw [e] at hkn
      obtain ⟨n1, _, n3⟩ := hkn
      have hnv : ∀ i, Out n i → nv (skeep s') i = nv s' i := fun i hi => by rw [idle_nv k3]; exact k4 i hi
      have hst0 : s'.step.getD 0 none = none := by
        have h1 : 0 < s.step.length := by rw [u.vs.snd.ok.slen]; have := u.vs.len; have := u.vs.bd; omega
        have h2 := g.dom.2 0 h1
        have h3 : s.step.getD 0 none = none := by rw [u.idle, noPgs_at]
        have h4 : L.contains 0 = false := by
          cases q : L.contains 0 with
          | false => rfl
          | true => rw [List.contains_eq_mem, decide_eq_true_iff] at q; exact absurd q n3
        rw [h3, h4] at h2
        cases q : s'.step.getD 0 none with
        | none => rfl
        | some p => rw [q] at h2; cases h2
      have hno : (skeep s').group.getD 0 none = none := keep_no0 hst0 (by rw [g2]; exact u.no0)
      have hlen : ((skeep s').dk.last.length : Int) = n := k2.len
      refine ⟨rfl, ⟨by rw [List.length_append, List.length_singleton]; have := h.few; omega, by rw [List.length_append, List.length_singleton]; have := h.lt; omega, hlen, Or.inl ⟨k2, k3, by rw [g3] at k5; omega, hno, nice_out hpl hnv n1, by rw [last_grow], ?_⟩⟩, k2⟩
      rcases k7 with k7 | k7
      · have : lv (skeep s') = lv s := by unfold lv; rw [k7, g1]
        rw [this]
        exact u.disk.grow _
      · refine (has_out hpl (fun i hi => ?_) (u.has h.lt).2).grow _
        show (skeep s').dk.last.getD i [] = nv s i
        rw [k7 i hi, idle_nv u.idle]
        unfold gv
        rw [g1, g2]
    · rw [k1] at hz; exact absurd hz (by decide)
  · right
    rw [idle_drop u.idle]
    exact ⟨h0, h.more⟩
  · right
    obtain ⟨g1, g2, g3, g4, g5⟩ := g.keeps
    rcases vkeep_two v (by rw [g3]; omega) with ⟨k1, _⟩ | ⟨k1, _, k3, k4, k5⟩
    · exact absurd k1 hz
    · refine ⟨hz, ⟨by have := h.few; omega, h.lt, ?_, Or.inr ⟨k3, ?_⟩⟩⟩
      · show ((skeep s').dk.last.length : Int) = n
        have hl := skeep_len s'
        rw [hl, g1]; exact h.len
      · show Brk n I sts sure (skeep s').dk
        refine u.brk hpl h.lt hm k4 (fun keep => ?_)
        have := k5 keep
        rw [g1, g2, g3] at this
        exact this
theorem Cr.sync (h : Cr n I m sts sure s) (hup : s.over = false) (hm : m ≤ 45) : (ssyncE s = 0 ∧ Cr n I (m + 1) sts (sts.length - 1) (ssync s)) ∨ (ssyncE s ≠ 0 ∧ Cr n I (m + 1) sts sure (ssync s)) := by
  have u := h.up hup
  have hq := u.q
  have hlt := h.lt
  rcases vsync_two u.vs (by omega) with ⟨e1, e2, e3, e4, e5, e6, e7, _⟩ | ⟨e1, _, e3, e4, e5⟩
  · left
    have hid : Idle (ssync s) := by unfold Idle; rw [e3, u.idle, e5]
    have hdv : ∀ i, Out n i → lv (ssync s) i = nv s i := fun i hi => (e6 i hi).trans (idle_nv u.idle i).symm
    have hnv : ∀ i, Out n i → nv (ssync s) i = nv s i := fun i hi => by rw [idle_nv hid, noPgs_gv e4]; exact hdv i hi
    exact ⟨e1, ⟨by have := h.few; omega, by omega, by rw [e5]; exact h.len, Or.inl ⟨e2, hid, by omega, by rw [e4, noPgs_at], nice_out hpl hnv u.nice, by rw [Fs.loc_clean hpl (out_eqv hnv)]; exact u.now, has_out hpl hdv (u.has hlt).1⟩⟩⟩
  · right
    refine ⟨by rw [e1]; decide, ⟨by have := h.few; omega, hlt, ?_, Or.inr ⟨e3, u.brk hpl hlt hm e4 e5⟩⟩⟩
    rw [ssync_len]; exact h.len
theorem Cr.fin (h : Cr n I m sts sure s) (hm : m ≤ 45) (keep : List UInt8) : ∃ (X : List (List UInt8)) (cs : List Chg) (B : Int), 0 ≤ B ∧ B ≤ 100 ∧ cs.length ≤ 37 ∧ s.dk.Ok ∧ Good false 1 40 B cs X (Dk.crash s.dk keep).last ∧ (Dk.crash s.dk keep).last.getD 0 [] = Pl.superP n I ∧
    ∀ L, Fine false 1 40 cs X L → Has n I sts sure (fun i => L.getD i []) := by
  have fine : ∀ (X : List (List UInt8)) (cs : List Chg), Has n I sts sure (fun i => X.getD i []) → Has n I sts sure (fun i => (upd X cs).getD i []) → ∀ L, Fine false 1 40 cs X L → Has n I sts sure (fun i => L.getD i []) := fun X cs h1 h2 L hL => by
    rcases hL with ⟨_, g⟩ | g
    · exact has_out hpl (fun i hi => g i (by have := hi.2; omega)) h1
    · exact has_out hpl (fun i hi => g i (by have := hi.2; omega)) h2
  rcases h.two with u | ⟨_, b2, X, cs, B, c1, c2, c3, c6, c4, c5, c7⟩
  · have hq0 := u.vs.snd.q0
    have hq := u.q
    have hcr := Jn.crash_clean u.vs.snd.cl keep
    refine ⟨s.dk.last, [], s.q, hq0, by omega, by simp, u.vs.snd.cl.ok, ?_, ?_, fine _ _ u.disk u.disk⟩
    · rw [hcr]
      have hh := u.vs.snd.head
      rw [u.vs.a] at hh
      exact Or.inl ⟨rfl, rfl, by rw [hh]; exact Jn.page_low hq0 (by show s.q < 4294967296; omega) (Int.le_refl _), by rw [hh]; exact Jn.quietH_quiet hq0 (by omega), fun _ _ => rfl⟩
    · rw [hcr]; exact u.disk.1.super
  · refine ⟨X, cs, B, c1, c2, c3, b2, c4 keep, ?_, fine X cs c5 c7⟩
    rcases c4 keep with ⟨_, g⟩ | g | ⟨_, g⟩
    · rw [g.same 0 (Or.inl (by omega))]; exact c5.1.super
    · rw [g.same 0 (Or.inl (by omega))]; exact c7.1.super
    · rw [g.same 0 (Or.inl (by omega)) c6]; exact c7.1.super
end
end
end

section
open Go.RowKit Go.Maps
open Dk (zeros zeros_length)
open Ii (Ino)
def GreatGive (most : Nat) (os : List Fop) (w : World) (e : Ending) (w' : World) : Prop :=
  ∃ g : Bool, e = .returned (.bool g) ∧ (g = false → os.length ≤ most ∧ ∀ o ∈ os, o.text.length ≤ 512) ∧ Below w.heap.size w w'
theorem fgreat_any {w : World} {A : Option Addr} {n c most : Nat} {os : List Fop} (h : FopRow w A n os) (hm : most ≤ 1000) : Calls Tryz.prog 8 #[.slice A n c, .int .i64 (most : Int)] w (GreatGive most os w) := by
  have hsm := h.small
  have HR := Lib.hid h
  have HL := Lib.hid h.len
  have S0 := Lib.hid (Lo.start (L := []) w (by simp))
  unfold maxLen at hsm
  clear h
  by_cases hgr : (most : Int) < (n : Int)
  · go_enter Tryz.func8, Tryz.ntmps8
    go_wp2_with fail
    go_ret
    exact ⟨true, rfl, (fun q => by cases q), Below.refl _ _⟩
  · go_enter Tryz.func8, Tryz.ntmps8
    go_wp2_with fail
    go_loopw [13] (fun i wr => ∃ (k : Nat), k ≤ n ∧ i = .int .i64 k ∧ Lo [] w [] wr ∧ Hid (∀ j o, j < k → os[j]? = some o → o.text.length ≤ 512)) (fun i _ => n - (intOf i).toNat)
    case atStart => exact ⟨0, Nat.zero_le _, rfl, S0.out, Lib.hid (fun j o hj => by omega)⟩
    case round =>
      clear S0
      obtain ⟨k, hk, rfl, hS, HG⟩ := hrel
      have S := Lib.hid hS
      clear hS
      by_cases hlt : k < n
      · obtain ⟨o, ho⟩ : ∃ o, os[k]? = some o := ⟨_, List.getElem?_eq_getElem (by rw [HL.out]; exact hlt)⟩
        have HR2 := Lib.hid (HR.out.step S.out.bel)
        obtain ⟨pb, poff, rfl, hpb, hpr⟩ := HR2.out.cells (by omega)
        have HPI := Lib.hid (hpr k o ho)
        have HK := Lib.hid ho
        clear hpr hpb ho
        have HSZ : Hid ((strOf o.text).size = o.text.length) := Lib.hid (str_size o.text)
        by_cases hq : (512 : Int) < ((strOf o.text).size : Int)
        · go_wp2_with (first
            | (with_reducible refine wpList_load_mid rfl 33 (.tmp 15) rfl pb (poff + k * 16) rfl (opL o) _ HPI.out Tryz.underlying33 rfl (by kernel_rfl) ?_)
            | ((with_reducible refine wpList_store_newrow (vs := opL o) opT ?_ (opL_one _) rfl (.tmp 6) (.tmp 16) rfl rfl ?_ ?_ ?_); (exact rfl); (exact rfl); (exact rfl); intro W4 hP hB2 hz2; have S2 := Lib.hid (S.out.made hP hB2 hz2); clear hP hB2 hz2; have c4 := (S2.out.get 0 _ rfl).cell 4 _ rfl))
          go_ret
          exact ⟨true, rfl, (fun q => by cases q), S2.out.bel⟩
        · go_wp2_with (first
            | (with_reducible refine wpList_load_mid rfl 33 (.tmp 15) rfl pb (poff + k * 16) rfl (opL o) _ HPI.out Tryz.underlying33 rfl (by kernel_rfl) ?_)
            | ((with_reducible refine wpList_store_newrow (vs := opL o) opT ?_ (opL_one _) rfl (.tmp 6) (.tmp 16) rfl rfl ?_ ?_ ?_); (exact rfl); (exact rfl); (exact rfl); intro W4 hP hB2 hz2; have S2 := Lib.hid (S.out.made hP hB2 hz2); clear hP hB2 hz2; have c4 := (S2.out.get 0 _ rfl).cell 4 _ rfl))
          go_roundw
          case rel => exact ⟨k + 1, by omega, by go_num, S2.out.cut 0, Lib.hid (fun j o' hj ho' => by
            by_cases e : j = k
            · subst e
              have := HK.out
              rw [ho'] at this
              injection this with this
              subst this
              have := HSZ.out
              omega
            · exact HG.out j o' (by omega) ho')⟩
          case measure => simp [intOf]; omega
      · obtain rfl : k = n := by omega
        go_wp2_with fail
        go_ret
        refine ⟨false, rfl, fun _ => ⟨by have := HL.out; omega, fun o ho => ?_⟩, S.out.bel⟩
        obtain ⟨j, hj, he⟩ := List.getElem_of_mem ho
        exact HG.out j o (by have := HL.out; omega) (by rw [List.getElem?_eq_getElem hj, he])
end
end Go.Proofs.YtncmihikpcdgoaaGreat
