/- Texts of the proof: Fbnd, Fbndw, Fbndx, Fimg. -/
import Derived.Test.YtncmihikpcdgoaaGreatKap
import Derived.Test.YtncmihikpcdgoaaGreatKal
import Derived.Test.YtncmihikpcdgoaaGreatKao
import Derived.Maps.AppendAt
namespace Go.Proofs.YtncmihikpcdgoaaGreat.Fs
open Dk (zeros zeros_length)
open Ii (Ino)
def Cov (L D : List Nat) : Prop := ∀ i ∈ L, i = 0 ∨ i = 42 ∨ i ∈ D
def Cv {α : Type} (m : M α) (V : View) (k : Nat) : Prop := ∃ D, D.length ≤ k ∧ Cov (m V).2.2 D
theorem Cov.nil (D : List Nat) : Cov [] D := fun _ h => by cases h
theorem Cov.mono {L D D' : List Nat} (h : Cov L D) (hs : ∀ i ∈ D, i = 0 ∨ i = 42 ∨ i ∈ D') : Cov L D' := fun i hi => by
  rcases h i hi with q | q | q
  · exact Or.inl q
  · exact Or.inr (Or.inl q)
  · exact hs i q
theorem Cov.app {L L' D : List Nat} (h : Cov L D) (h' : Cov L' D) : Cov (L ++ L') D := fun i hi => by
  rcases List.mem_append.1 hi with q | q
  · exact h i q
  · exact h' i q
section
variable {α β : Type} {V : View}
theorem Cv.mono {m : M α} {k k' : Nat} (h : Cv m V k) (hk : k ≤ k') : Cv m V k' := by
  obtain ⟨D, h1, h2⟩ := h
  exact ⟨D, Nat.le_trans h1 hk, h2⟩
theorem Cv.andThen {m : M α} {f : α → M β} {k k' : Nat} (h : Cv m V k) (hf : ∀ a V1 L1, m V = (.ok a, V1, L1) → Cv (f a) V1 k') : Cv (andThen m f) V (k + k') := by
  obtain ⟨D, h1, h2⟩ := h
  rcases e : m V with ⟨r, V1, L1⟩
  rw [e] at h2
  cases r with
  | error er => exact ⟨D, by omega, by rw [andThen_err e]; exact h2⟩
  | ok a =>
    obtain ⟨D', h3, h4⟩ := hf a V1 L1 e
    refine ⟨D ++ D', by rw [List.length_append]; omega, ?_⟩
    rw [andThen_ok e]
    exact (h2.mono fun i hi => Or.inr (Or.inr (List.mem_append_left _ hi))).app (h4.mono fun i hi => Or.inr (Or.inr (List.mem_append_right _ hi)))
theorem cv_nil {m : M α} (h : (m V).2.2 = []) : Cv m V 0 := ⟨[], Nat.le_refl _, by rw [h]; exact Cov.nil _⟩
theorem cv_ret (a : α) : Cv (ret a) V 0 := cv_nil rfl
theorem cv_fail (e : Int) : Cv (fail e : M α) V 0 := cv_nil rfl
theorem cv_see (f : View → α) : Cv (see f) V 0 := cv_nil rfl
theorem cv_tell (f : View → Except Int α) : Cv (tell f) V 0 := cv_nil rfl
theorem cv_wr (i : Nat) (p : List UInt8) : Cv (wr i p) V 1 := ⟨[i], Nat.le_refl _, fun j hj => Or.inr (Or.inr hj)⟩
theorem cv_mark42 (bit : Int) (on1 : Bool) : Cv (markM 42 bit on1) V 0 := ⟨[], Nat.le_refl _, fun j hj => Or.inr (Or.inl (by simpa [markM, wr] using hj))⟩
theorem cv_mark (at1 : Nat) (bit : Int) (on1 : Bool) : Cv (markM at1 bit on1) V 1 := cv_wr _ _
theorem cv_setI (i : Int) (x : Ino) : Cv (setI i x) V 1 := by
  by_cases c : Ii.putN (V (tbl i)) (halfAt i) x = V (tbl i)
  · exact ⟨[], Nat.zero_le _, by rw [show setI i x V = ret () V from if_pos c]; exact Cov.nil _⟩
  · exact ⟨[tbl i], Nat.le_refl _, by rw [show setI i x V = wr (tbl i) (Ii.putN (V (tbl i)) (halfAt i) x) V from if_neg c]; exact fun j hj => Or.inr (Or.inr hj)⟩
theorem cv_ite {c : Prop} [Decidable c] {m m' : M α} {k : Nat} (h1 : c → Cv m V k) (h2 : ¬ c → Cv m' V k) : Cv (if c then m else m') V k := by
  split
  · exact h1 ‹_›
  · exact h2 ‹_›
end
theorem cv_right (n I : Int) (x : Ino) (V : View) : Cv (rightM n I x) V 0 := by
  unfold rightM
  exact cv_ite (fun _ => cv_fail _) fun _ => cv_ret _
theorem cv_new (n I : Int) (x : Ino) (V : View) : Cv (newM n I x) V 2 := by
  unfold newM
  exact (cv_right n I _ V).andThen (k' := 2) fun y V1 _ _ => (cv_tell _).andThen (k' := 2) fun i V2 _ _ => (cv_setI _ _).andThen (k' := 1) fun _ V3 _ _ => (cv_mark _ _ _).andThen (k' := 0) fun _ _ _ _ => cv_ret _
theorem cv_change (n I i : Int) (x : Ino) (V : View) : Cv (changeM n I i x) V 1 := by
  unfold changeM
  exact (cv_tell _).andThen (k' := 1) fun was V1 _ _ => (cv_right n I _ V1).andThen (k' := 1) fun y V2 _ _ => cv_setI _ _
def LenV (n I : Int) (V : View) : Prop := ∀ m, isData n I m → (V m.toNat).length = 64
section
variable {n I : Int} {V : View}
theorem LenV.upd (h : LenV n I V) (i : Nat) (p : List UInt8) (hp : p.length = 64) : LenV n I (upd V i p) := fun m hm => by
  unfold Fs.upd
  split
  · exact hp
  · exact h m hm
theorem LenV.mark (hd : 44 ≤ Pl.dataN I) (h : LenV n I V) (p : List UInt8) : LenV n I (Fs.upd V 42 p) := fun m hm => by
  unfold Fs.upd
  rw [if_neg (by unfold isData at hm; omega)]
  exact h m hm
theorem LenV.data (h : LenV n I V) {m : Int} {p : List UInt8} (e : dataF n I m V = .ok p) : p.length = 64 := by
  unfold dataF at e
  split at e
  · injection e with e; subst e; exact zeros_length
  · split at e
    · next c => injection e with e; subst e; exact h m c
    · cases e
end
def Z (p : List UInt8) (k : Nat) : Prop := p.length = 64 ∧ ∀ j, j < 2 * k → p[j]? = some 0
theorem setNum_at (p : List UInt8) (k : Nat) (hk : k < 32) (v : Int) : setNum p (k : Int) v = Pg.over p (2 * k) (Pg.bytesN 2 v) := by
  unfold setNum
  rw [if_pos (by omega)]
  unfold Pg.setN
  rw [if_pos (Pg.num_mk (by omega) (by omega) (by omega) (by omega))]
  have e : (2 * (k : Int)).toNat = 2 * k := by omega
  rw [e]
  rfl
theorem Z.step {p : List UInt8} {k : Nat} (h : Z p k) (hk : k < 32) : Z (setNum p (k : Int) 0) (k + 1) := by
  refine ⟨setNum_length _ _ _ h.1, fun j hj => ?_⟩
  rw [setNum_at _ _ hk, Pg.over_at _ _ _ _ (by rw [Pg.bytesN_length, h.1]; omega), Pg.bytesN_length]
  by_cases h1 : j < 2 * k
  · rw [if_pos h1]; exact h.2 j h1
  · rw [if_neg h1, if_pos (by omega)]
    have : j - 2 * k = 0 ∨ j - 2 * k = 1 := by omega
    rcases this with e | e <;> rw [e] <;> decide
theorem Z.full {p : List UInt8} (h : Z p 32) : p = zeros := by
  apply List.ext_getElem?
  intro j
  by_cases hj : j < 64
  · rw [h.2 j (by omega)]
    unfold zeros
    rw [List.getElem?_replicate, if_pos hj]
  · rw [List.getElem?_eq_none (by rw [h.1]; omega), List.getElem?_eq_none (by rw [zeros_length]; omega)]
section
variable {n I : Int} (hd : 44 ≤ Pl.dataN I)
include hd
/-- what is cut off whole: no page of numbers is put -/
theorem cut0 : ∀ (d : Nat) (m frm : Int) (V : View), frm ≤ 0 → LenV n I V → ∃ V' L, cutM n I d m frm V = (.ok 0, V', L) ∧ Cov L [] ∧ LenV n I V' := by
  intro d
  induction d with
  | zero =>
    intro m frm V hf hV
    unfold cutM
    rw [if_neg (by omega)]
    by_cases hm : isData n I m
    · rw [if_pos hm]
      refine ⟨_, _, rfl, ?_, hV.mark hd _⟩
      intro j hj
      exact Or.inr (Or.inl (by simpa [markM, wr, ret] using hj))
    · rw [if_neg hm, if_neg (by omega)]
      exact ⟨V, [], rfl, Cov.nil _, hV⟩
  | succ d ih =>
    intro m frm V hf hV
    have hp : (0 : Int) < 32 ^ (d + 1) := Int.pow_pos (by omega)
    unfold cutM
    rw [if_neg (by omega)]
    by_cases hm : isData n I m
    · rw [if_pos hm]
      have hq : (0 : Int) ≤ 32 ^ d := Int.le_of_lt (Int.pow_pos (by omega))
      have loop : ∀ (c k : Nat) (was p : List UInt8) (V : View), k + c = 32 → Z p k → LenV n I V → ∃ p' V' L, cutLoop (cutM n I d) (32 ^ d) frm was k c p V = (.ok p', V', L) ∧ Z p' 32 ∧ Cov L [] ∧ LenV n I V' := by
        intro c
        induction c with
        | zero =>
          intro k was p V hk hz hV
          obtain rfl : k = 32 := by omega
          exact ⟨p, V, [], rfl, hz, Cov.nil _, hV⟩
        | succ c ihc =>
          intro k was p V hk hz hV
          have hkq : (0 : Int) ≤ (k : Int) * 32 ^ d := Int.mul_nonneg (by omega) hq
          obtain ⟨V1, L1, e1, c1, v1⟩ := ih (numN was (k : Int)) (frm - (k : Int) * 32 ^ d) V (by omega) hV
          obtain ⟨p', V', L, e2, z2, c2, v2⟩ := ihc (k + 1) was (setNum p (k : Int) 0) V1 (by omega) (hz.step (by omega)) v1
          refine ⟨p', V', L1 ++ L, ?_, z2, c1.app c2, v2⟩
          rw [cutLoop, andThen_ok e1, e2]
      obtain ⟨p', V', L, e, z, c, v⟩ := loop 32 0 (V m.toNat) (V m.toNat) V rfl ⟨hV m hm, fun j hj => by omega⟩ hV
      have e2 : cutNums (cutM n I d) (32 ^ d) m frm V = (.ok false, V', L) := by
        unfold cutNums
        rw [andThen_ok (show see (fun V : View => V m.toNat) V = (.ok (V m.toNat), V, []) from rfl), andThen_ok e, z.full]
        simp [ret]
      rw [andThen_ok e2]
      refine ⟨_, _, rfl, ?_, v.mark hd _⟩
      simp only [Bool.false_eq_true, if_false]
      refine c.app ?_
      intro j hj
      exact Or.inr (Or.inl (by simpa [markM, wr, ret, andThen] using hj))
    · rw [if_neg hm, if_neg (by omega)]
      exact ⟨V, [], rfl, Cov.nil _, hV⟩
omit hd in
theorem keep_andThen {α β : Type} {m : M α} {f : α → M β} {V : View} (h : LenV n I (m V).2.1) (hf : ∀ a V1 L1, m V = (.ok a, V1, L1) → LenV n I V1 → LenV n I (f a V1).2.1) : LenV n I (andThen m f V).2.1 := by
  rcases e : m V with ⟨r, V1, L1⟩
  rw [e] at h
  cases r with
  | error er => rw [andThen_err e]; exact h
  | ok a => rw [andThen_ok e]; exact hf a V1 L1 e h
omit hd in
theorem cut_id (d : Nat) (m frm : Int) (h : (32 : Int) ^ d ≤ frm) : cutM n I d m frm = ret m := by
  cases d with
  | zero => unfold cutM; rw [if_pos (by simpa using h)]
  | succ d => unfold cutM; rw [if_pos h]
theorem cutS : ∀ (d : Nat) (m frm : Int) (V : View), LenV n I V → Cv (cutM n I d m frm) V d ∧ LenV n I (cutM n I d m frm V).2.1 := by
  intro d
  induction d with
  | zero =>
    intro m frm V hV
    unfold cutM
    refine ⟨cv_ite (fun _ => cv_ret _) fun _ => cv_ite (fun _ => (cv_mark42 _ _).andThen (k' := 0) fun _ _ _ _ => cv_ret _) fun _ => cv_ret _, ?_⟩
    by_cases c : 1 ≤ frm
    · rw [if_pos c]; exact hV
    · rw [if_neg c]
      by_cases hm : isData n I m
      · rw [if_pos hm]; exact hV.mark hd _
      · rw [if_neg hm]; exact hV
  | succ d ih =>
    intro m frm V hV
    unfold cutM
    by_cases c : (32 : Int) ^ (d + 1) ≤ frm
    · rw [if_pos c]; exact ⟨(cv_ret _).mono (Nat.zero_le _), hV⟩
    rw [if_neg c]
    by_cases hm : isData n I m
    rotate_left
    · rw [if_neg hm]; exact ⟨(cv_ret _).mono (Nat.zero_le _), hV⟩
    rw [if_pos hm]
    have hq : (0 : Int) ≤ 32 ^ d := Int.le_of_lt (Int.pow_pos (by omega))
    have loop : ∀ (c k : Nat) (was p : List UInt8) (V : View), k + c = 32 → p.length = 64 → LenV n I V → Cv (cutLoop (cutM n I d) (32 ^ d) frm was k c p) V (if frm ≤ (k : Int) * 32 ^ d then 0 else d) ∧ (∀ p' V' L, cutLoop (cutM n I d) (32 ^ d) frm was k c p V = (.ok p', V', L) → p'.length = 64) ∧ LenV n I (cutLoop (cutM n I d) (32 ^ d) frm was k c p V).2.1 := by
      intro c
      induction c with
      | zero =>
        intro k was p V hk hp hV
        refine ⟨(cv_ret _).mono (Nat.zero_le _), fun p' V' L e => ?_, hV⟩
        unfold cutLoop ret at e
        injection e with e _
        injection e with e
        subst e
        exact hp
      | succ c ihc =>
        intro k was p V hk hp hV
        have hkq : ((k + 1 : Nat) : Int) * 32 ^ d = (k : Int) * 32 ^ d + 32 ^ d := by rw [Int.natCast_add, Int.add_mul]; simp
        have hsub := ih (numN was (k : Int)) (frm - (k : Int) * 32 ^ d) V hV
        have hn := fun (y : Int) (V1 : View) (hV1 : LenV n I V1) => ihc (k + 1) was (setNum p (k : Int) y) V1 (by omega) (setNum_length _ _ _ hp) hV1
        refine ⟨?_, ?_, ?_⟩
        · by_cases c1 : frm ≤ (k : Int) * 32 ^ d
          · rw [if_pos c1]
            obtain ⟨V1, L1, e1, k1, v1⟩ := cut0 hd d (numN was (k : Int)) (frm - (k : Int) * 32 ^ d) V (by omega) hV
            unfold cutLoop
            refine Cv.andThen (k := 0) (k' := 0) ⟨[], Nat.le_refl _, by rw [e1]; exact k1⟩ fun y V2 L2 e2 => ?_
            rw [e1] at e2
            injection e2 with _ e2
            injection e2 with e2 _
            subst e2
            have := (hn y _ v1).1
            rwa [if_pos (by omega)] at this
          · rw [if_neg c1]
            unfold cutLoop
            by_cases c2 : 32 ^ d ≤ frm - (k : Int) * 32 ^ d
            · rw [cut_id d _ _ c2, ret_andThen]
              refine (hn _ V hV).1.mono ?_
              split <;> omega
            · refine (Cv.andThen (k' := 0) hsub.1 fun y V2 L2 e2 => ?_)
              have hv2 := hsub.2
              rw [e2] at hv2
              have := (hn y _ hv2).1
              rwa [if_pos (by omega)] at this
        · intro p' V' L e
          unfold cutLoop at e
          rcases e2 : cutM n I d (numN was (k : Int)) (frm - (k : Int) * 32 ^ d) V with ⟨r, V1, L1⟩
          have hv2 := hsub.2
          rw [e2] at hv2
          cases r with
          | error er => rw [andThen_err e2] at e; injection e with e _; cases e
          | ok y =>
            rw [andThen_ok e2] at e
            rcases e3 : cutLoop (cutM n I d) (32 ^ d) frm was (k + 1) c (setNum p (k : Int) y) V1 with ⟨r3, V3, L3⟩
            rw [e3] at e
            injection e with e _
            simp only at e
            subst e
            exact (hn y V1 hv2).2.1 _ _ _ e3
        · unfold cutLoop
          refine keep_andThen hsub.2 fun y V1 L1 _ hV1 => (hn y V1 hV1).2.2
    have hl := loop 32 0 (V m.toNat) (V m.toNat) V rfl (hV m hm) hV
    have hN : Cv (cutNums (cutM n I d) (32 ^ d) m frm) V (d + 1) ∧ LenV n I (cutNums (cutM n I d) (32 ^ d) m frm V).2.1 := by
      unfold cutNums
      constructor
      · have := (cv_see (V := V) (fun V : View => V m.toNat)).andThen (k' := d + 1) (f := fun was => Fs.andThen (cutLoop (cutM n I d) (32 ^ d) frm was 0 32 was) fun p => if p = zeros then ret false else if p = was then ret true else Fs.andThen (wr m.toNat p) fun _ => ret true) fun was V1 L1 e1 => by
          unfold see at e1
          injection e1 with e1 e1'
          injection e1 with e1
          injection e1' with e1' _
          subst e1 e1'
          refine (hl.1.mono (k' := d) (by split <;> omega)).andThen (k' := 1) fun p V2 L2 _ => ?_
          exact cv_ite (fun _ => (cv_ret _).mono (Nat.zero_le _)) fun _ => cv_ite (fun _ => (cv_ret _).mono (Nat.zero_le _)) fun _ => (cv_wr _ _).andThen (k' := 0) fun _ _ _ _ => cv_ret _
        exact this.mono (by omega)
      · refine keep_andThen hV fun was V1 L1 e1 _ => ?_
        unfold see at e1
        injection e1 with e1 e1'
        injection e1 with e1
        injection e1' with e1' _
        subst e1 e1'
        refine keep_andThen hl.2.2 fun p V2 L2 e2 hV2 => ?_
        have hp := hl.2.1 _ _ _ e2
        by_cases c1 : p = zeros
        · rw [if_pos c1]; exact hV2
        · rw [if_neg c1]
          by_cases c2 : p = V m.toNat
          · rw [if_pos c2]; exact hV2
          · rw [if_neg c2]; exact hV2.upd _ _ hp
    constructor
    · exact (hN.1.andThen (k' := 0) fun left V1 L1 _ => cv_ite (fun _ => cv_ret _) fun _ => (cv_mark42 _ _).andThen (k' := 0) fun _ _ _ _ => cv_ret _).mono (by omega)
    · refine keep_andThen hN.2 fun left V1 L1 _ hV1 => ?_
      cases left with
      | true => exact hV1
      | false => exact hV1.mark hd _
theorem cutN (d : Nat) (m frm : Int) (V : View) (hV : LenV n I V) (hf : frm ≤ 0) : Cv (cutM n I d m frm) V 0 ∧ LenV n I (cutM n I d m frm V).2.1 := by
  obtain ⟨V', L, e, c, v⟩ := cut0 hd d m frm V hf hV
  rw [e]
  exact ⟨⟨[], Nat.le_refl _, by rw [e]; exact c⟩, v⟩
omit hd in
/-- two calls, one behind the other -/
theorem cvk_andThen {α β : Type} {m : M α} {f : α → M β} {V : View} {k k' : Nat} (h : Cv m V k ∧ LenV n I (m V).2.1) (hf : ∀ a V1, LenV n I V1 → Cv (f a) V1 k' ∧ LenV n I (f a V1).2.1) : Cv (andThen m f) V (k + k') ∧ LenV n I (andThen m f V).2.1 :=
  ⟨h.1.andThen fun a V1 L1 e => (hf a V1 (by have := h.2; rw [e] at this; exact this)).1, keep_andThen h.2 fun a V1 L1 _ hV => (hf a V1 hV).2⟩
theorem cutFileS (x : Ino) (frm : Int) (V : View) (hV : LenV n I V) : Cv (cutFile n I x frm) V 3 ∧ LenV n I (cutFile n I x frm V).2.1 := by
  unfold cutFile
  exact cvk_andThen (k := 0) (k' := 3) (cutS hd 0 _ _ V hV) fun a V1 h1 => cvk_andThen (k := 0) (k' := 3) (cutS hd 0 _ _ V1 h1) fun b V2 h2 => cvk_andThen (k := 0) (k' := 3) (cutS hd 0 _ _ V2 h2) fun c V3 h3 => cvk_andThen (k := 0) (k' := 3) (cutS hd 0 _ _ V3 h3) fun d V4 h4 =>
    cvk_andThen (k := 1) (k' := 2) (cutS hd 1 _ _ V4 h4) fun e V5 h5 => cvk_andThen (k := 2) (k' := 0) (cutS hd 2 _ _ V5 h5) fun f V6 h6 => ⟨cv_ret _, h6⟩
theorem cutFileN (x : Ino) (V : View) (hV : LenV n I V) : Cv (cutFile n I x 0) V 0 := by
  unfold cutFile
  exact (cvk_andThen (k := 0) (k' := 0) (cutN hd 0 _ _ V hV (by omega)) fun a V1 h1 => cvk_andThen (k := 0) (k' := 0) (cutN hd 0 _ _ V1 h1 (by omega)) fun b V2 h2 => cvk_andThen (k := 0) (k' := 0) (cutN hd 0 _ _ V2 h2 (by omega)) fun c V3 h3 => cvk_andThen (k := 0) (k' := 0) (cutN hd 0 _ _ V3 h3 (by omega)) fun d V4 h4 =>
    cvk_andThen (k := 0) (k' := 0) (cutN hd 1 _ _ V4 h4 (by omega)) fun e V5 h5 => cvk_andThen (k := 0) (k' := 0) (cutN hd 2 _ _ V5 h5 (by omega)) fun f V6 h6 => ⟨cv_ret _, h6⟩).1
theorem cv_release (i : Int) (V : View) (hV : LenV n I V) : Cv (releaseM n I i) V 2 := by
  unfold releaseM
  refine (cv_tell _).andThen (k' := 2) fun x V1 L1 e1 => ?_
  obtain rfl : V1 = V := by unfold tell at e1; injection e1 with _ e1; injection e1 with e1 _; exact e1.symm
  exact (cutFileN hd x V1 hV).andThen (k' := 2) fun _ _ _ _ => (cv_setI _ _).andThen (k' := 1) fun _ _ _ _ => cv_mark _ _ _
theorem cv_trunc (i z : Int) (V : View) (hV : LenV n I V) : Cv (truncM n I i z) V 5 := by
  unfold truncM
  refine ((cv_tell _).andThen (k' := 5) fun x V1 L1 e1 => ?_)
  obtain rfl : V1 = V := by unfold tell at e1; injection e1 with _ e1; injection e1 with e1 _; exact e1.symm
  refine cv_ite (fun _ => (cv_fail _).mono (Nat.zero_le _)) fun _ => cv_ite (fun _ => (cv_fail _).mono (Nat.zero_le _)) fun _ => ?_
  refine (cutFileS hd x _ V1 hV).1.andThen (k' := 2) fun y V2 _ _ => ?_
  refine Cv.andThen (k := 1) (k' := 1) ?_ fun _ _ _ _ => cv_setI _ _
  unfold blankM
  refine cv_ite (fun _ => (cv_ret _).mono (Nat.zero_le _)) fun _ => ?_
  exact (cv_tell _).andThen (k' := 1) fun m V3 _ _ => (cv_tell _).andThen (k' := 1) fun was V4 _ _ => cv_ite (fun _ => (cv_ret _).mono (Nat.zero_le _)) fun _ => cv_wr _ _
end
end Go.Proofs.YtncmihikpcdgoaaGreat.Fs

namespace Go.Proofs.YtncmihikpcdgoaaGreat.Fs
open Dk (zeros zeros_length)
open Ii (Ino)
def Frame {α : Type} (m : M α) : Prop := ∀ V j, j ∉ (m V).2.2 → (m V).2.1 j = V j
theorem frame_ret {α : Type} (a : α) : Frame (ret a) := fun _ _ _ => rfl
theorem frame_fail {α : Type} (e : Int) : Frame (fail e : M α) := fun _ _ _ => rfl
theorem frame_see {α : Type} (f : View → α) : Frame (see f) := fun _ _ _ => rfl
theorem frame_tell {α : Type} (f : View → Except Int α) : Frame (tell f) := fun _ _ _ => rfl
theorem frame_wr (i : Nat) (p : List UInt8) : Frame (wr i p) := fun V j hj => by
  have : j ≠ i := fun e => hj (by simp [wr, e])
  show upd V i p j = V j
  unfold upd
  rw [if_neg this]
theorem frame_mark (at1 : Nat) (bit : Int) (on1 : Bool) : Frame (markM at1 bit on1) := fun V j hj => frame_wr at1 (Bt.setB (V at1) bit on1) V j hj
theorem frame_andThen {α β : Type} {m : M α} {f : α → M β} (h : Frame m) (hf : ∀ a, Frame (f a)) : Frame (andThen m f) := fun V j hj => by
  have hm := h V j
  rcases e : m V with ⟨r, V1, L1⟩
  rw [e] at hm
  cases r with
  | error er => rw [andThen_err e] at hj ⊢; exact hm hj
  | ok a =>
    rw [andThen_ok e] at hj ⊢
    simp only [List.mem_append, not_or] at hj
    exact (hf a V1 j hj.2).trans (hm hj.1)
theorem frame_ite {α : Type} {c : Prop} [Decidable c] {m m' : M α} (h1 : Frame m) (h2 : Frame m') : Frame (if c then m else m') := by
  split
  · exact h1
  · exact h2
def bodyN (n I : Int) (g : List UInt8 → List UInt8) (ks : List Int) (m : Int) : M Unit := andThen (goR n I ks m) fun t => andThen (tell (dataF n I t)) fun p => wr t.toNat (g p)
theorem bodyN_nil (n I : Int) (g : List UInt8 → List UInt8) (m : Int) : bodyN n I g [] m = andThen (tell (dataF n I m)) fun p => wr m.toNat (g p) := by
  unfold bodyN goR
  rw [ret_andThen]
theorem bodyN_cons (n I : Int) (g : List UInt8 → List UInt8) (k : Int) (ks : List Int) (m : Int) : bodyN n I g (k :: ks) m = andThen (tell (dataF n I m)) fun p =>
    if numN p k = 0 then andThen (takeM n I) fun t => andThen (wr m.toNat (setNum p k t)) fun _ => bodyN n I g ks t else bodyN n I g ks (numN p k) := by
  unfold bodyN
  rw [goR, andThen_assoc]
  congr 1
  funext p
  split
  · rw [andThen_assoc]
    congr 1
    funext t
    rw [andThen_assoc]
  · rfl
def pieceM (n I : Int) (x : Ino) (i : Int) (g : List UInt8 → List UInt8) : M Ino :=
  if firstN x i = 0 then andThen (takeM n I) fun m => andThen (bodyN n I g (placesN i) m) fun _ => ret (setFirst x i m)
  else andThen (bodyN n I g (placesN i) (firstN x i)) fun _ => ret x
theorem wloop_piece (n I : Int) (c : Pc) (cs : List Pc) (x : Ino) (t : List UInt8) : wloop n I (c :: cs) x t = andThen (pieceM n I x c.idx (fun p => Pg.setTextN p c.at1 (t.take c.size))) fun y => wloop n I cs y (t.drop c.size) := by
  rw [wloop]
  unfold reachM pieceM bodyN
  split
  · simp only [andThen_assoc, ret_andThen]
  · simp only [andThen_assoc, ret_andThen]
section
variable {n I : Int} (hpl : Pl.rightB n I = true)
include hpl
theorem take_cases (V : View) : (∃ e, takeM n I V = (.error e, V, [])) ∨ ∃ m V1, takeM n I V = (.ok m, V1, [42, m.toNat]) ∧ isData n I m ∧ V1 m.toNat = zeros ∧ (∀ j, j ≠ 42 → j ≠ m.toNat → V1 j = V j) := by
  obtain ⟨b1, b2, b3, b4, b5, b6, b7⟩ := pl_bd hpl
  have hb := Bt.first_bd (V 42) 0 (n - Pl.dataN I)
  unfold takeM
  rw [andThen_ok (show see (fun V : View => Bt.first (V 42) 0 (n - Pl.dataN I)) V = (.ok (Bt.first (V 42) 0 (n - Pl.dataN I)), V, []) from rfl)]
  generalize Bt.first (V 42) 0 (n - Pl.dataN I) = b at hb ⊢
  rcases hb with rfl | ⟨h1, _, h2⟩
  · left
    exact ⟨28, rfl⟩
  · right
    rw [if_neg (by omega)]
    refine ⟨Pl.dataN I + b, upd (upd V 42 (Bt.setB (V 42) b true)) (Pl.dataN I + b).toNat zeros, rfl, ⟨by omega, by omega⟩, ?_, ?_⟩
    · unfold upd; rw [if_pos rfl]
    · intro j h3 h4
      unfold upd; rw [if_neg h4, if_neg h3]
omit hpl in
theorem frame_take : Frame (takeM n I) := by
  unfold takeM
  exact frame_andThen (frame_see _) fun b => frame_ite (frame_fail _) (frame_andThen (frame_mark _ _ _) fun _ => frame_andThen (frame_wr _ _) fun _ => frame_ret _)
omit hpl in
theorem frame_body (g : List UInt8 → List UInt8) : ∀ (ks : List Int) (m : Int), Frame (bodyN n I g ks m)
  | [], m => by
    rw [bodyN_nil]
    exact frame_andThen (frame_tell _) fun _ => frame_wr _ _
  | k :: ks, m => by
    rw [bodyN_cons]
    exact frame_andThen (frame_tell _) fun _ => frame_ite (frame_andThen frame_take fun t => frame_andThen (frame_wr _ _) fun _ => frame_body g ks t) (frame_body g ks _)
theorem keep_take {V : View} (hV : LenV n I V) : LenV n I (takeM n I V).2.1 := by
  rcases take_cases hpl V with ⟨e, h⟩ | ⟨m, V1, h, hm, hz, ho⟩
  · rw [h]; exact hV
  · rw [h]
    obtain ⟨b1, b2, b3, b4, b5, b6, b7⟩ := pl_bd hpl
    intro k hk
    by_cases e : k.toNat = m.toNat
    · rw [show (Except.ok m, V1, [42, m.toNat]).2.1 = V1 from rfl, e, hz]; exact zeros_length
    · have := ho k.toNat (by unfold isData at hk; omega) e
      rw [show (Except.ok m, V1, [42, m.toNat]).2.1 = V1 from rfl, this]; exact hV k hk
omit hpl in
theorem tell_is {α : Type} {f : View → Except Int α} {V V1 : View} {a : α} {L : List Nat} (h : tell f V = (.ok a, V1, L)) : f V = .ok a ∧ V1 = V ∧ L = [] := by
  unfold tell at h
  injection h with h1 h2
  injection h2 with h2 h3
  exact ⟨h1, h2.symm, h3.symm⟩
theorem keep_body {g : List UInt8 → List UInt8} (hg : ∀ p, p.length = 64 → (g p).length = 64) : ∀ (ks : List Int) (m : Int) (V : View), LenV n I V → LenV n I (bodyN n I g ks m V).2.1
  | [], m, V, hV => by
    rw [bodyN_nil]
    refine keep_andThen hV fun p V1 L1 e hV1 => ?_
    obtain ⟨e1, rfl, _⟩ := tell_is e
    exact hV1.upd _ _ (hg _ (hV.data e1))
  | k :: ks, m, V, hV => by
    rw [bodyN_cons]
    refine keep_andThen hV fun p V1 L1 e hV1 => ?_
    obtain ⟨e1, rfl, _⟩ := tell_is e
    have hp := hV.data e1
    by_cases c : numN p k = 0
    · rw [if_pos c]
      exact keep_andThen (keep_take hpl hV) fun t V2 L2 _ hV2 => keep_andThen (hV2.upd _ _ (setNum_length _ _ _ hp)) fun _ V3 L3 _ hV3 => keep_body hg ks t V3 hV3
    · rw [if_neg c]
      exact keep_body hg ks _ V1 hV
theorem keep_piece {g : List UInt8 → List UInt8} (hg : ∀ p, p.length = 64 → (g p).length = 64) (x : Ino) (i : Int) {V : View} (hV : LenV n I V) : LenV n I (pieceM n I x i g V).2.1 := by
  unfold pieceM
  by_cases c : firstN x i = 0
  · rw [if_pos c]
    exact keep_andThen (keep_take hpl hV) fun m V1 _ _ h1 => keep_andThen (keep_body hpl hg _ _ _ h1) fun _ V2 _ _ h2 => h2
  · rw [if_neg c]
    exact keep_andThen (keep_body hpl hg _ _ _ hV) fun _ V2 _ _ h2 => h2
omit hpl in
theorem body0 (g : List UInt8 → List UInt8) (m : Int) (V : View) : Cov (bodyN n I g [] m V).2.2 [m.toNat] := by
  rw [bodyN_nil]
  rcases e : tell (dataF n I m) V with ⟨r, V1, L⟩
  have hL : L = [] := by unfold tell at e; injection e with _ e; injection e with _ e; exact e.symm
  subst hL
  cases r with
  | error er => rw [andThen_err e]; exact Cov.nil _
  | ok p => rw [andThen_ok e]; intro j hj; exact Or.inr (Or.inr (by simpa [wr] using hj))
theorem body1 (g : List UInt8 → List UInt8) (c k : Int) (V : View) : ∃ t, Cov (bodyN n I g [k] c V).2.2 [c.toNat, t] := by
  rw [bodyN_cons]
  rcases e : tell (dataF n I c) V with ⟨r, V1, L⟩
  cases r with
  | error er =>
    have hL : L = [] := by unfold tell at e; injection e with _ e; injection e with _ e; exact e.symm
    subst hL
    exact ⟨0, by rw [andThen_err e]; exact Cov.nil _⟩
  | ok p =>
    obtain ⟨e1, rfl, rfl⟩ := tell_is e
    rw [andThen_ok e]
    by_cases q : numN p k = 0
    · rw [if_pos q]
      rcases take_cases hpl V1 with ⟨e2, h⟩ | ⟨t, V2, h, _⟩
      · exact ⟨0, by rw [andThen_err h]; exact Cov.nil _⟩
      · refine ⟨t.toNat, ?_⟩
        rw [andThen_ok h, andThen_ok (show wr c.toNat (setNum p k t) V2 = (.ok (), upd V2 c.toNat (setNum p k t), [c.toNat]) from rfl)]
        have h0 := body0 (n := n) (I := I) g t (upd V2 c.toNat (setNum p k t))
        simp only [List.nil_append]
        refine Cov.app ?_ (Cov.app ?_ (h0.mono fun i hi => Or.inr (Or.inr ?_)))
        · intro j hj; simp at hj ⊢; rcases hj with rfl | rfl <;> simp
        · intro j hj; simp at hj ⊢; subst hj; simp
        · simp at hi ⊢; exact Or.inr hi
    · rw [if_neg q]
      exact ⟨(numN p k).toNat, by
        simp only [List.nil_append]
        exact (body0 g _ V1).mono fun i hi => Or.inr (Or.inr (by simp at hi ⊢; exact Or.inr hi))⟩
omit hpl in
theorem num_same {p : List UInt8} {o c : Int} (hp : p.length = 64) (h1 : 0 ≤ o) (h2 : o < 32) (h3 : 0 ≤ c) (h4 : c < 65536) : numN (setNum p o c) o = c := by
  unfold numN setNum
  rw [if_pos ⟨h1, h2⟩, if_pos ⟨h1, h2⟩]
  obtain ⟨k, rfl⟩ := Int.eq_ofNat_of_zero_le h1
  have e : (2 * (k : Int)) = ((2 * k : Nat) : Int) := by omega
  rw [e]
  exact Jn.get_set_same p (2 * k) hp (by omega) c h3 h4
/-- an entry of a page of pages: the page f, the entry's page c, the page t that is put -/
theorem body2 (g : List UInt8 → List UInt8) (f o k : Int) (V : View) (hf : isData n I f) (hV : LenV n I V) (h1 : 0 ≤ o) (h2 : o < 32) : ∃ c t, Cov (bodyN n I g [o, k] f V).2.2 [f.toNat, c, t] ∧ (numN (V f.toNat) o ≠ 0 → c = (numN (V f.toNat) o).toNat) ∧
    (c ≠ f.toNat → t ≠ f.toNat → ∀ V' L, bodyN n I g [o, k] f V = (.ok (), V', L) → (numN (V' f.toNat) o).toNat = c) := by
  obtain ⟨b1, b2, b3, b4, b5, b6, b7⟩ := pl_bd hpl
  have hfd := hf
  unfold isData at hfd
  have e0 : tell (dataF n I f) V = (.ok (V f.toNat), V, []) := by
    unfold tell dataF
    rw [if_neg (by omega), if_pos hf]
  rw [bodyN_cons, andThen_ok e0]
  by_cases q : numN (V f.toNat) o = 0
  · rw [if_pos q]
    rcases take_cases hpl V with ⟨e2, h⟩ | ⟨c, V2, h, hc, hz, ho⟩
    · exact ⟨0, 0, by rw [andThen_err h]; exact Cov.nil _, fun q' => absurd q q', fun _ _ V' L e => by rw [andThen_err h] at e; injection e with e _; cases e⟩
    · have hcd := hc
      unfold isData at hcd
      rw [andThen_ok h, andThen_ok (show wr f.toNat (setNum (V f.toNat) o c) V2 = (.ok (), upd V2 f.toNat (setNum (V f.toNat) o c), [f.toNat]) from rfl)]
      obtain ⟨t, ht⟩ := body1 hpl g c k (upd V2 f.toNat (setNum (V f.toNat) o c))
      refine ⟨c.toNat, t, ?_, fun q' => absurd q q', fun n1 n2 V' L e => ?_⟩
      · simp only [List.nil_append]
        refine Cov.app ?_ (Cov.app ?_ (ht.mono fun i hi => Or.inr (Or.inr ?_)))
        · intro j hj; simp at hj ⊢; rcases hj with rfl | rfl <;> simp
        · intro j hj; simp at hj ⊢; subst hj; simp
        · simp at hi ⊢; exact Or.inr hi
      · have hfr := frame_body (n := n) (I := I) g [k] c (upd V2 f.toNat (setNum (V f.toNat) o c)) f.toNat (fun hm => by
          rcases ht _ hm with q1 | q1 | q1
          · omega
          · omega
          · simp at q1
            rcases q1 with q1 | q1
            · exact n1 q1.symm
            · exact n2 q1.symm)
        injection e with _ e
        injection e with e _
        rw [← e, hfr]
        unfold upd
        rw [if_pos rfl, num_same (hV f hf) h1 h2 (by omega) (by omega)]
  · rw [if_neg q]
    obtain ⟨t, ht⟩ := body1 hpl g (numN (V f.toNat) o) k V
    refine ⟨(numN (V f.toNat) o).toNat, t, ?_, fun _ => rfl, fun n1 n2 V' L e => ?_⟩
    · simp only [List.nil_append]
      exact ht.mono fun i hi => Or.inr (Or.inr (by simp at hi ⊢; exact Or.inr hi))
    · have hfr := frame_body (n := n) (I := I) g [k] (numN (V f.toNat) o) V f.toNat (fun hm => by
        rcases ht _ hm with q1 | q1 | q1
        · omega
        · omega
        · simp at q1
          rcases q1 with q1 | q1
          · exact n1 q1.symm
          · exact n2 q1.symm)
      injection e with _ e
      injection e with e _
      rw [← e, hfr]
/-- a piece of the first 36 pages: the page e of their numbers, and the page t that is put -/
theorem piece1 (g : List UInt8 → List UInt8) (x : Ino) (i : Int) (V : View) (h0 : 0 ≤ i) (h1 : i < 36) : ∃ e t, Cov (pieceM n I x i g V).2.2 [e, t] ∧ (x.e.toNat ≠ 0 → e = x.e.toNat) ∧ ∀ x' V' L, pieceM n I x i g V = (.ok x', V', L) → x'.e.toNat = e := by
  have hok : Sp.okB i = true := by unfold Sp.okB; rw [decide_eq_true_iff]; omega
  unfold pieceM
  by_cases hi : i < 4
  · have hdep : Sp.dep i = 0 := by unfold Sp.dep; rw [if_pos (by omega), if_pos hi]
    have hpl' : placesN i = [] := by unfold placesN; rw [if_pos hok, if_pos hdep]
    rw [hpl']
    by_cases c : firstN x i = 0
    · rw [if_pos c]
      rcases take_cases hpl V with ⟨e2, h⟩ | ⟨m, V2, h, _⟩
      · exact ⟨x.e.toNat, 0, by rw [andThen_err h]; exact Cov.nil _, fun _ => rfl, fun x' V' L e => by rw [andThen_err h] at e; injection e with e _; cases e⟩
      · refine ⟨x.e.toNat, m.toNat, ?_, fun _ => rfl, fun x' V' L e => ?_⟩
        · rw [andThen_ok h]
          have h0' := body0 (n := n) (I := I) g m V2
          refine Cov.app ?_ ?_
          · intro j hj; simp at hj ⊢; rcases hj with rfl | rfl <;> simp
          · obtain ⟨L, hL⟩ := andThen_log (bodyN n I g [] m) (fun _ => ret (setFirst x i m)) V2
            rcases e3 : bodyN n I g [] m V2 with ⟨r, V3, L3⟩
            rw [e3] at h0'
            cases r with
            | error er => rw [andThen_err e3]; exact h0'.mono fun i hi => Or.inr (Or.inr (by simp at hi ⊢; exact Or.inr hi))
            | ok _ => rw [andThen_ok e3]; simp only [ret, List.append_nil]; exact h0'.mono fun i hi => Or.inr (Or.inr (by simp at hi ⊢; exact Or.inr hi))
        · rw [andThen_ok h] at e
          rcases e3 : bodyN n I g [] m V2 with ⟨r, V3, L3⟩
          cases r with
          | error er => rw [andThen_err e3] at e; injection e with e _; cases e
          | ok _ =>
            rw [andThen_ok e3] at e
            injection e with e _
            injection e with e
            rw [← e]
            unfold setFirst
            rw [if_pos hdep]
            unfold setDir
            split <;> rfl
    · rw [if_neg c]
      have h0' := body0 (n := n) (I := I) g (firstN x i) V
      refine ⟨x.e.toNat, (firstN x i).toNat, ?_, fun _ => rfl, fun x' V' L e => ?_⟩
      · rcases e3 : bodyN n I g [] (firstN x i) V with ⟨r, V3, L3⟩
        rw [e3] at h0'
        cases r with
        | error er => rw [andThen_err e3]; exact h0'.mono fun i hi => Or.inr (Or.inr (by simp at hi ⊢; exact Or.inr hi))
        | ok _ => rw [andThen_ok e3]; simp only [ret, List.append_nil]; exact h0'.mono fun i hi => Or.inr (Or.inr (by simp at hi ⊢; exact Or.inr hi))
      · rcases e3 : bodyN n I g [] (firstN x i) V with ⟨r, V3, L3⟩
        cases r with
        | error er => rw [andThen_err e3] at e; injection e with e _; cases e
        | ok _ => rw [andThen_ok e3] at e; injection e with e _; injection e with e; rw [← e]
  · have hdep : Sp.dep i = 1 := by unfold Sp.dep; rw [if_pos (by omega), if_neg hi, if_pos h1]
    have hpl' : placesN i = [Sp.inn i] := by unfold placesN; rw [if_pos hok, if_neg (by rw [hdep]; decide), if_pos hdep]
    have hfi : firstN x i = x.e := by unfold firstN; rw [if_pos hok, if_neg (by rw [hdep]; decide), if_pos hdep]
    rw [hpl', hfi]
    by_cases c : x.e = 0
    · rw [if_pos c]
      rcases take_cases hpl V with ⟨e2, h⟩ | ⟨m, V2, h, _⟩
      · exact ⟨x.e.toNat, 0, by rw [andThen_err h]; exact Cov.nil _, fun _ => rfl, fun x' V' L e => by rw [andThen_err h] at e; injection e with e _; cases e⟩
      · obtain ⟨t, h0'⟩ := body1 hpl g m (Sp.inn i) V2
        refine ⟨m.toNat, t, ?_, fun q => absurd (by rw [c]; rfl) q, fun x' V' L e => ?_⟩
        · rw [andThen_ok h]
          refine Cov.app ?_ ?_
          · intro j hj; simp at hj ⊢; rcases hj with rfl | rfl <;> simp
          · rcases e3 : bodyN n I g [Sp.inn i] m V2 with ⟨r, V3, L3⟩
            rw [e3] at h0'
            cases r with
            | error er => rw [andThen_err e3]; exact h0'
            | ok _ => rw [andThen_ok e3]; simp only [ret, List.append_nil]; exact h0'
        · rw [andThen_ok h] at e
          rcases e3 : bodyN n I g [Sp.inn i] m V2 with ⟨r, V3, L3⟩
          cases r with
          | error er => rw [andThen_err e3] at e; injection e with e _; cases e
          | ok _ =>
            rw [andThen_ok e3] at e
            injection e with e _
            injection e with e
            rw [← e]
            unfold setFirst
            rw [if_neg (by rw [hdep]; decide), if_pos hdep]
    · rw [if_neg c]
      obtain ⟨t, h0'⟩ := body1 hpl g x.e (Sp.inn i) V
      refine ⟨x.e.toNat, t, ?_, fun _ => rfl, fun x' V' L e => ?_⟩
      · rcases e3 : bodyN n I g [Sp.inn i] x.e V with ⟨r, V3, L3⟩
        rw [e3] at h0'
        cases r with
        | error er => rw [andThen_err e3]; exact h0'
        | ok _ => rw [andThen_ok e3]; simp only [ret, List.append_nil]; exact h0'
      · rcases e3 : bodyN n I g [Sp.inn i] x.e V with ⟨r, V3, L3⟩
        cases r with
        | error er => rw [andThen_err e3] at e; injection e with e _; cases e
        | ok _ => rw [andThen_ok e3] at e; injection e with e _; injection e with e; rw [← e]
end
/-- the entry of a file's page of pages -/
def curF (n I : Int) (x : Ino) (V : View) (o : Int) : Nat := if isData n I x.f then (numN (V x.f.toNat) o).toNat else 0
section
variable {n I : Int} (hpl : Pl.rightB n I = true)
include hpl
/-- a piece behind the first 36 pages -/
theorem piece2 (g : List UInt8 → List UInt8) (x : Ino) (i : Int) (V : View) (h0 : 36 ≤ i) (h1 : i < 1060) (hV : LenV n I V) : ∃ f c t, Cov (pieceM n I x i g V).2.2 [f, c, t] ∧ (x.f.toNat ≠ 0 → f = x.f.toNat) ∧ (curF n I x V (Sp.out i) ≠ 0 → c = curF n I x V (Sp.out i)) ∧
    ∀ x' V' L, pieceM n I x i g V = (.ok x', V', L) → x'.f.toNat = f ∧ (c ≠ f → t ≠ f → curF n I x' V' (Sp.out i) = c) := by
  obtain ⟨b1, b2, b3, b4, b5, b6, b7⟩ := pl_bd hpl
  have hok : Sp.okB i = true := by unfold Sp.okB; rw [decide_eq_true_iff]; omega
  have hdep : Sp.dep i = 2 := by unfold Sp.dep; rw [if_pos (by omega), if_neg (by omega), if_neg (by omega)]
  have hpl' : placesN i = [Sp.out i, Sp.inn i] := by unfold placesN; rw [if_pos hok, if_neg (by rw [hdep]; decide), if_neg (by rw [hdep]; decide)]
  have hfi : firstN x i = x.f := by unfold firstN; rw [if_pos hok, if_neg (by rw [hdep]; decide), if_neg (by rw [hdep]; decide)]
  have ho : 0 ≤ Sp.out i ∧ Sp.out i < 32 := by unfold Sp.out; rw [if_pos (by omega)]; omega
  unfold pieceM
  rw [hpl', hfi]
  generalize Sp.out i = o at ho ⊢
  by_cases c : x.f = 0
  · rw [if_pos c]
    have hcur : curF n I x V o = 0 := by unfold curF; rw [if_neg (by rw [c]; unfold isData; omega)]
    rcases take_cases hpl V with ⟨e2, h⟩ | ⟨m, V2, h, hm, hz, hoth⟩
    · exact ⟨x.f.toNat, curF n I x V o, 0, by rw [andThen_err h]; exact Cov.nil _, fun _ => rfl, fun _ => rfl, fun x' V' L e => by rw [andThen_err h] at e; injection e with e _; cases e⟩
    · have hV2 : LenV n I V2 := by have := keep_take hpl hV; rw [h] at this; exact this
      obtain ⟨c', t, h0', _, h3⟩ := body2 hpl g m o (Sp.inn i) V2 hm hV2 ho.1 ho.2
      refine ⟨m.toNat, c', t, ?_, fun q => absurd (by rw [c]; rfl) q, fun q => absurd hcur q, fun x' V' L e => ?_⟩
      · rw [andThen_ok h]
        refine Cov.app ?_ ?_
        · intro j hj; simp at hj ⊢; rcases hj with rfl | rfl <;> simp
        · rcases e3 : bodyN n I g [o, Sp.inn i] m V2 with ⟨r, V3, L3⟩
          rw [e3] at h0'
          cases r with
          | error er => rw [andThen_err e3]; exact h0'
          | ok _ => rw [andThen_ok e3]; simp only [ret, List.append_nil]; exact h0'
      · rw [andThen_ok h] at e
        rcases e3 : bodyN n I g [o, Sp.inn i] m V2 with ⟨r, V3, L3⟩
        cases r with
        | error er => rw [andThen_err e3] at e; injection e with e _; cases e
        | ok u =>
          rw [andThen_ok e3] at e
          injection e with e e'
          injection e' with e' _
          injection e with e
          have ef : x'.f = m := by
            rw [← e]
            unfold setFirst
            rw [if_neg (by rw [hdep]; decide), if_neg (by rw [hdep]; decide)]
          refine ⟨by rw [ef], fun n1 n2 => ?_⟩
          unfold curF
          rw [ef, if_pos hm, ← e']
          exact h3 n1 n2 V3 L3 e3
  · rw [if_neg c]
    by_cases hm : isData n I x.f
    · obtain ⟨c', t, h0', h2, h3⟩ := body2 hpl g x.f o (Sp.inn i) V hm hV ho.1 ho.2
      have hcur : curF n I x V o = (numN (V x.f.toNat) o).toNat := by unfold curF; rw [if_pos hm]
      refine ⟨x.f.toNat, c', t, ?_, fun _ => rfl, fun q => ?_, fun x' V' L e => ?_⟩
      · rcases e3 : bodyN n I g [o, Sp.inn i] x.f V with ⟨r, V3, L3⟩
        rw [e3] at h0'
        cases r with
        | error er => rw [andThen_err e3]; exact h0'
        | ok _ => rw [andThen_ok e3]; simp only [ret, List.append_nil]; exact h0'
      · rw [hcur] at q ⊢
        exact h2 (fun q' => q (by rw [q']; rfl))
      · rcases e3 : bodyN n I g [o, Sp.inn i] x.f V with ⟨r, V3, L3⟩
        cases r with
        | error er => rw [andThen_err e3] at e; injection e with e _; cases e
        | ok u =>
          rw [andThen_ok e3] at e
          injection e with e e'
          injection e' with e' _
          injection e with e
          refine ⟨by rw [← e], fun n1 n2 => ?_⟩
          unfold curF
          rw [← e, if_pos hm, ← e']
          exact h3 n1 n2 V3 L3 e3
    · have e0 : tell (dataF n I x.f) V = (.error 5, V, []) := by
        unfold tell dataF
        rw [if_neg c, if_neg hm]
      have e1 : bodyN n I g [o, Sp.inn i] x.f V = (.error 5, V, []) := by rw [bodyN_cons, andThen_err e0]
      exact ⟨x.f.toNat, curF n I x V o, 0, by rw [andThen_err e1]; exact Cov.nil _, fun _ => rfl, fun _ => rfl, fun x' V' L e => by rw [andThen_err e1] at e; injection e with e _; cases e⟩
end
end Go.Proofs.YtncmihikpcdgoaaGreat.Fs

namespace Go.Proofs.YtncmihikpcdgoaaGreat.Fs
open Dk (zeros zeros_length)
open Ii (Ino)
/-- how often the page of numbers changes -/
def sw : Int → List Pc → Nat
  | _, [] => 0
  | o, c :: cs => (if Sp.out c.idx = o then 0 else 1) + sw (Sp.out c.idx) cs
section
variable {n I : Int} (hpl : Pl.rightB n I = true)
include hpl
theorem wcov2 : ∀ (cs : List Pc) (x : Ino) (V : View) (t : List UInt8) (o : Int) (D L0 : List Nat), (∀ c ∈ cs, 36 ≤ c.idx ∧ c.idx < 1060) → LenV n I V → Cov L0 (x.f.toNat :: curF n I x V o :: D) →
    ∃ D', D'.length ≤ 2 + D.length + cs.length + sw o cs ∧ Cov (L0 ++ (wloop n I cs x t V).2.2) D' := by
  intro cs
  induction cs with
  | nil =>
    intro x V t o D L0 _ _ hc
    exact ⟨x.f.toNat :: curF n I x V o :: D, by simp only [List.length_cons, List.length_nil, sw]; omega, by unfold wloop ret; simpa using hc⟩
  | cons c cs ih =>
    intro x V t o D L0 hcs hV hc
    obtain ⟨i1, i2⟩ := hcs c (List.mem_cons_self ..)
    rw [wloop_piece]
    generalize hg : (fun p => Pg.setTextN p (c.at1 : Int) (t.take c.size)) = g
    have hgl : ∀ p, p.length = 64 → (g p).length = 64 := fun p hp => by rw [← hg]; exact Pg.setTextN_length _ _ _ hp
    obtain ⟨D1, hD1, hc1⟩ : ∃ D1 : List Nat, D1.length ≤ D.length + (if Sp.out c.idx = o then 0 else 1) ∧ Cov L0 (x.f.toNat :: curF n I x V (Sp.out c.idx) :: D1) := by
      by_cases q : Sp.out c.idx = o
      · exact ⟨D, by rw [if_pos q]; omega, by rw [q]; exact hc⟩
      · refine ⟨curF n I x V o :: D, by rw [if_neg q]; simp, hc.mono fun i hi => Or.inr (Or.inr ?_)⟩
        simp only [List.mem_cons] at hi ⊢
        rcases hi with h | h | h
        · exact Or.inl h
        · exact Or.inr (Or.inr (Or.inl h))
        · exact Or.inr (Or.inr (Or.inr h))
    obtain ⟨f, c', t', h1, h2, h3, h4⟩ := piece2 hpl g x c.idx V (by omega) (by omega) hV
    have hk := keep_piece hpl hgl x c.idx hV
    have hbase : ∀ i ∈ (x.f.toNat :: curF n I x V (Sp.out c.idx) :: D1), i = 0 ∨ i = 42 ∨ i ∈ f :: c' :: D1 := fun i hi => by
      simp only [List.mem_cons] at hi ⊢
      rcases hi with h | h | h
      · by_cases q : x.f.toNat = 0
        · exact Or.inl (h.trans q)
        · exact Or.inr (Or.inr (Or.inl (h.trans (h2 q).symm)))
      · by_cases q : curF n I x V (Sp.out c.idx) = 0
        · exact Or.inl (h.trans q)
        · exact Or.inr (Or.inr (Or.inr (Or.inl (h.trans (h3 q).symm))))
      · exact Or.inr (Or.inr (Or.inr (Or.inr h)))
    have hall : Cov (L0 ++ (pieceM n I x c.idx g V).2.2) (f :: c' :: t' :: D1) := (hc1.mono fun i hi => by
      rcases hbase i hi with q | q | q
      · exact Or.inl q
      · exact Or.inr (Or.inl q)
      · simp only [List.mem_cons] at q ⊢
        rcases q with q | q | q
        · exact Or.inr (Or.inr (Or.inl q))
        · exact Or.inr (Or.inr (Or.inr (Or.inl q)))
        · exact Or.inr (Or.inr (Or.inr (Or.inr (Or.inr q))))).app (h1.mono fun i hi => by
      simp only [List.mem_cons, List.not_mem_nil, or_false] at hi ⊢
      rcases hi with q | q | q
      · exact Or.inr (Or.inr (Or.inl q))
      · exact Or.inr (Or.inr (Or.inr (Or.inl q)))
      · exact Or.inr (Or.inr (Or.inr (Or.inr (Or.inl q)))))
    rcases e : pieceM n I x c.idx g V with ⟨r, V1, L1⟩
    rw [e] at hk hall
    simp only [sw, List.length_cons]
    cases r with
    | error er =>
      rw [andThen_err e]
      exact ⟨_, by simp only [List.length_cons]; omega, hall⟩
    | ok x' =>
      rw [andThen_ok e]
      obtain ⟨k1, k2⟩ := h4 x' V1 L1 e
      obtain ⟨D2, hD2, hc2⟩ : ∃ D2 : List Nat, D2.length ≤ D1.length + 1 ∧ Cov (L0 ++ L1) (x'.f.toNat :: curF n I x' V1 (Sp.out c.idx) :: D2) := by
        by_cases q1 : c' = f
        · refine ⟨t' :: D1, by simp, hall.mono fun i hi => Or.inr (Or.inr ?_)⟩
          rw [k1]
          simp only [List.mem_cons] at hi ⊢
          rcases hi with h | h | h | h
          · exact Or.inl h
          · exact Or.inl (h.trans q1)
          · exact Or.inr (Or.inr (Or.inl h))
          · exact Or.inr (Or.inr (Or.inr h))
        · by_cases q2 : t' = f
          · refine ⟨c' :: D1, by simp, hall.mono fun i hi => Or.inr (Or.inr ?_)⟩
            rw [k1]
            simp only [List.mem_cons] at hi ⊢
            rcases hi with h | h | h | h
            · exact Or.inl h
            · exact Or.inr (Or.inr (Or.inl h))
            · exact Or.inl (h.trans q2)
            · exact Or.inr (Or.inr (Or.inr h))
          · refine ⟨t' :: D1, by simp, hall.mono fun i hi => Or.inr (Or.inr ?_)⟩
            rw [k1, k2 q1 q2]
            simp only [List.mem_cons] at hi ⊢
            rcases hi with h | h | h | h
            · exact Or.inl h
            · exact Or.inr (Or.inl h)
            · exact Or.inr (Or.inr (Or.inl h))
            · exact Or.inr (Or.inr (Or.inr h))
      obtain ⟨D', z1, z2⟩ := ih x' V1 (t.drop c.size) (Sp.out c.idx) D2 (L0 ++ L1) (fun c2 hc2 => hcs c2 (List.mem_cons_of_mem _ hc2)) hk hc2
      refine ⟨D', by omega, ?_⟩
      rw [← List.append_assoc]
      exact z2
theorem wcov1 : ∀ (cs : List Pc) (x : Ino) (V : View) (t : List UInt8) (o : Int) (D L0 : List Nat), (∀ c ∈ cs, c.idx < 1060) → List.Pairwise (fun a b : Pc => a.idx ≤ b.idx) cs → LenV n I V → Cov L0 (x.e.toNat :: D) →
    ∃ D', D'.length ≤ 3 + D.length + cs.length + sw o cs ∧ Cov (L0 ++ (wloop n I cs x t V).2.2) D' := by
  intro cs
  induction cs with
  | nil =>
    intro x V t o D L0 _ _ _ hc
    exact ⟨x.e.toNat :: D, by simp only [List.length_cons, List.length_nil, sw]; omega, by unfold wloop ret; simpa using hc⟩
  | cons c cs ih =>
    intro x V t o D L0 hcs hpw hV hc
    have i2 := hcs c (List.mem_cons_self ..)
    by_cases h36 : 36 ≤ c.idx
    · obtain ⟨D', z1, z2⟩ := wcov2 hpl (c :: cs) x V t o (x.e.toNat :: D) L0 (fun c2 hc2 => ⟨by
        rcases List.mem_cons.1 hc2 with rfl | h
        · exact h36
        · exact Nat.le_trans h36 ((List.pairwise_cons.1 hpw).1 c2 h), hcs c2 hc2⟩) hV (hc.mono fun i hi => Or.inr (Or.inr (List.mem_cons_of_mem _ (List.mem_cons_of_mem _ hi))))
      exact ⟨D', by simp only [List.length_cons] at z1 ⊢; omega, z2⟩
    · rw [wloop_piece]
      generalize hg : (fun p => Pg.setTextN p (c.at1 : Int) (t.take c.size)) = g
      have hgl : ∀ p, p.length = 64 → (g p).length = 64 := fun p hp => by rw [← hg]; exact Pg.setTextN_length _ _ _ hp
      have hout : Sp.out (c.idx : Int) = 0 := by unfold Sp.out; rw [if_neg (by omega)]
      obtain ⟨e1, t', h1, h2, h4⟩ := piece1 hpl g x c.idx V (by omega) (by omega)
      have hk := keep_piece hpl hgl x c.idx hV
      have hall : Cov (L0 ++ (pieceM n I x c.idx g V).2.2) (e1 :: t' :: D) := (hc.mono fun i hi => by
        simp only [List.mem_cons] at hi ⊢
        rcases hi with h | h
        · by_cases q : x.e.toNat = 0
          · exact Or.inl (h.trans q)
          · exact Or.inr (Or.inr (Or.inl (h.trans (h2 q).symm)))
        · exact Or.inr (Or.inr (Or.inr (Or.inr h)))).app (h1.mono fun i hi => by
        simp only [List.mem_cons, List.not_mem_nil, or_false] at hi ⊢
        rcases hi with q | q
        · exact Or.inr (Or.inr (Or.inl q))
        · exact Or.inr (Or.inr (Or.inr (Or.inl q))))
      rcases e : pieceM n I x c.idx g V with ⟨r, V1, L1⟩
      rw [e] at hk hall
      simp only [sw, List.length_cons]
      cases r with
      | error er =>
        rw [andThen_err e]
        exact ⟨_, by simp only [List.length_cons]; omega, hall⟩
      | ok x' =>
        rw [andThen_ok e]
        have k1 := h4 x' V1 L1 e
        obtain ⟨D', z1, z2⟩ := ih x' V1 (t.drop c.size) (Sp.out c.idx) (t' :: D) (L0 ++ L1) (fun c2 hc2 => hcs c2 (List.mem_cons_of_mem _ hc2)) (List.pairwise_cons.1 hpw).2 hk (by rw [k1]; exact hall)
        refine ⟨D', by simp only [List.length_cons] at z1; omega, ?_⟩
        rw [← List.append_assoc]
        exact z2
end
theorem out_mono {a b : Nat} (h : a ≤ b) (hb : b < 1060) : Sp.out (a : Int) ≤ Sp.out (b : Int) := by
  unfold Sp.out
  split
  · rw [if_pos (by omega)]; omega
  · split <;> omega
theorem pcs_facts : ∀ (f off n : Nat), n ≤ f → n ≠ 0 → (off + n - 1) / 64 < 1060 → (pcs f off n).length ≤ (off % 64 + n + 63) / 64 ∧ (∀ c ∈ pcs f off n, off / 64 ≤ c.idx ∧ c.idx ≤ (off + n - 1) / 64) ∧ List.Pairwise (fun a b : Pc => a.idx ≤ b.idx) (pcs f off n) ∧
    ∀ o : Int, o ≤ Sp.out ((off / 64 : Nat) : Int) → (sw o (pcs f off n) : Int) ≤ Sp.out (((off + n - 1) / 64 : Nat) : Int) - o := by
  intro f
  induction f with
  | zero => intro off n h1 h2; omega
  | succ f ih =>
    intro off n h1 h2 h3
    unfold pcs
    rw [if_neg h2]
    generalize hm : min n (64 - off % 64) = m
    have hm1 : 1 ≤ m ∧ m ≤ n ∧ m ≤ 64 - off % 64 := by omega
    have hmono := out_mono (a := off / 64) (b := (off + n - 1) / 64) (by omega) h3
    by_cases hr : n - m = 0
    · have e : pcs f (off + m) (n - m) = [] := by rw [hr]; cases f <;> rfl
      rw [e]
      refine ⟨by simp only [List.length_cons, List.length_nil]; omega, fun c hc => ?_, List.pairwise_singleton _ _, fun o ho => ?_⟩
      · rw [List.mem_singleton] at hc
        subst hc
        simp only
        omega
      · simp only [sw]
        split
        · omega
        · omega
    · have hmm : m = 64 - off % 64 := by omega
      obtain ⟨p1, p2, p3, p4⟩ := ih (off + m) (n - m) (by omega) hr (by omega)
      have e1 : (off + m) / 64 = off / 64 + 1 := by omega
      have e2 : off + m + (n - m) - 1 = off + n - 1 := by omega
      have e3 : (off + m) % 64 = 0 := by omega
      rw [e1, e2] at p2
      rw [e1, e2] at p4
      rw [e3] at p1
      refine ⟨by simp only [List.length_cons]; omega, fun c hc => ?_, List.pairwise_cons.2 ⟨fun c hc => by have := p2 c hc; simp only; omega, p3⟩, fun o ho => ?_⟩
      · rcases List.mem_cons.1 hc with rfl | hc
        · simp only; omega
        · have := p2 c hc; omega
      · have hm2 := out_mono (a := off / 64) (b := off / 64 + 1) (by omega) (by omega)
        have := p4 (Sp.out ((off / 64 : Nat) : Int)) hm2
        simp only [sw]
        split
        · next q => rw [q] at this ⊢; omega
        · omega
section
variable {n I : Int} (hpl : Pl.rightB n I = true)
include hpl
theorem cv_write (i off : Int) (t : List UInt8) (V : View) (hV : LenV n I V) (ht : t.length ≤ 512) : Cv (writeM n I i off t) V 14 := by
  unfold writeM
  refine (cv_tell _).andThen (k' := 14) fun x V1 L1 e1 => ?_
  obtain ⟨_, rfl, _⟩ := tell_is e1
  refine cv_ite (fun _ => (cv_fail _).mono (Nat.zero_le _)) fun h1 => cv_ite (fun _ => (cv_ret _).mono (Nat.zero_le _)) fun h2 => cv_ite (fun _ => (cv_fail _).mono (Nat.zero_le _)) fun h3 => ?_
  refine Cv.andThen (k := 13) (k' := 1) ?_ fun _ _ _ _ => cv_setI _ _
  obtain ⟨a, rfl⟩ := Int.eq_ofNat_of_zero_le (show 0 ≤ off by omega)
  have hn0 : t.length ≠ 0 := fun q => h2 (List.length_eq_zero_iff.1 q)
  rw [Int.toNat_natCast]
  obtain ⟨p1, p2, p3, p4⟩ := pcs_facts t.length a t.length (Nat.le_refl _) hn0 (by omega)
  have hsw := p4 (Sp.out ((a / 64 : Nat) : Int)) (Int.le_refl _)
  have hout : Sp.out (((a + t.length - 1) / 64 : Nat) : Int) - Sp.out ((a / 64 : Nat) : Int) ≤ 1 := by
    unfold Sp.out
    split <;> split <;> omega
  obtain ⟨D', z1, z2⟩ := wcov1 hpl (pieces a t.length) { x with s := max x.s ((a : Int) + t.length) } V1 t (Sp.out ((a / 64 : Nat) : Int)) [] [] (fun c hc => by have := p2 c hc; omega) p3 hV (Cov.nil _)
  refine ⟨D', ?_, by simpa using z2⟩
  unfold pieces at z1
  simp only [List.length_nil] at z1
  omega
theorem cv_op (o : Fop) (V : View) (hV : LenV n I V) (ht : o.text.length ≤ 512) : Cv (opM n I o) V 17 := by
  obtain ⟨b1, b2, b3, b4, b5, b6, b7⟩ := pl_bd hpl
  unfold opM
  refine cv_ite (fun _ => (cv_new _ _ _ _).mono (by omega)) fun _ => cv_ite (fun _ => ?_) fun _ => cv_ite (fun _ => ?_) fun _ => cv_ite (fun _ => ?_) fun _ => cv_ite (fun _ => ?_) fun _ => (cv_ret _).mono (Nat.zero_le _)
  · exact ((cv_change n I _ _ V).andThen (k' := 0) fun _ _ _ _ => cv_ret _).mono (by omega)
  · exact ((cv_release b5 _ V hV).andThen (k' := 0) fun _ _ _ _ => cv_ret _).mono (by omega)
  · exact ((cv_write hpl _ _ _ V hV ht).andThen (k' := 0) fun _ _ _ _ => cv_ret _).mono (by omega)
  · exact ((cv_trunc b5 _ _ V hV).andThen (k' := 0) fun _ _ _ _ => cv_ret _).mono (by omega)
omit hpl in
theorem LenV.low {V : View} (h : LenV n I V) {i : Nat} (hi : (i : Int) < Pl.dataN I) (hd : 44 ≤ Pl.dataN I) (p : List UInt8) : LenV n I (Fs.upd V i p) := fun m hm => by
  unfold Fs.upd
  rw [if_neg (by unfold isData at hm; omega)]
  exact h m hm
theorem keep_setI {i : Int} (h1 : 1 ≤ i) (h2 : i ≤ I) (x : Ino) {V : View} (hV : LenV n I V) : LenV n I (setI i x V).2.1 := by
  obtain ⟨b1, b2, b3, b4, b5, b6, b7⟩ := pl_bd hpl
  by_cases c : Ii.putN (V (tbl i)) (halfAt i) x = V (tbl i)
  · rw [show setI i x V = ret () V from if_pos c]; exact hV
  · rw [show setI i x V = wr (tbl i) (Ii.putN (V (tbl i)) (halfAt i) x) V from if_neg c]; exact hV.low (tbl_bd hpl h1 h2).2 b5 _
theorem keep_mark {at1 : Nat} (h : at1 ≤ 42) (bit : Int) (on1 : Bool) {V : View} (hV : LenV n I V) : LenV n I (markM at1 bit on1 V).2.1 := by
  obtain ⟨b1, b2, b3, b4, b5, b6, b7⟩ := pl_bd hpl
  exact hV.low (i := at1) (by omega) b5 _
omit hpl in
theorem keep_right (x : Ino) {V : View} (hV : LenV n I V) : LenV n I (rightM n I x V).2.1 := by
  by_cases c : x.k = 0 ∨ Ii.rightI n I x = false
  · rw [show rightM n I x V = fail 22 V from congrFun (if_pos c) V]; exact hV
  · rw [show rightM n I x V = ret x V from congrFun (if_neg c) V]; exact hV
omit hpl in
theorem least_in (V : View) : ∀ (c : Nat) (i j : Int), leastG V c i = .ok j → i ≤ j ∧ j < i + c
  | 0, i, j, h => by cases h
  | c + 1, i, j, h => by
    unfold leastG at h
    split at h
    · injection h with h; omega
    · have := least_in V c (i + 1) j h; omega
theorem keep_new (x : Ino) {V : View} (hV : LenV n I V) : LenV n I (newM n I x V).2.1 := by
  obtain ⟨b1, b2, b3, b4, b5, b6, b7⟩ := pl_bd hpl
  unfold newM
  refine keep_andThen (keep_right _ hV) fun y V1 _ _ h1 => keep_andThen h1 fun i V2 _ e h2 => ?_
  obtain ⟨e1, rfl, _⟩ := tell_is (f := fun V => leastG V I.toNat 1) e
  have hi := least_in _ _ _ _ e1
  exact keep_andThen (keep_setI hpl (by omega) (by omega) _ h2) fun _ V3 _ _ h3 => keep_andThen (keep_mark hpl (by omega) _ _ h3) fun _ V4 _ _ h4 => h4
theorem keep_change (i : Int) (x : Ino) {V : View} (hV : LenV n I V) : LenV n I (changeM n I i x V).2.1 := by
  unfold changeM
  refine keep_andThen hV fun was V1 _ e h1 => ?_
  obtain ⟨e1, rfl, _⟩ := tell_is e
  obtain ⟨i1, i2, _⟩ := taken_yes e1
  exact keep_andThen (keep_right _ h1) fun y V2 _ _ h2 => keep_setI hpl i1 i2 _ h2
theorem keep_release (i : Int) {V : View} (hV : LenV n I V) : LenV n I (releaseM n I i V).2.1 := by
  obtain ⟨b1, b2, b3, b4, b5, b6, b7⟩ := pl_bd hpl
  unfold releaseM
  refine keep_andThen hV fun x V1 _ e h1 => ?_
  obtain ⟨e1, rfl, _⟩ := tell_is e
  obtain ⟨i1, i2, _⟩ := taken_yes e1
  exact keep_andThen (cutFileS b5 x 0 V1 h1).2 fun _ V2 _ _ h2 => keep_andThen (keep_setI hpl i1 i2 _ h2) fun _ V3 _ _ h3 => keep_mark hpl (by omega) _ _ h3
theorem keep_trunc (i z : Int) {V : View} (hV : LenV n I V) : LenV n I (truncM n I i z V).2.1 := by
  obtain ⟨b1, b2, b3, b4, b5, b6, b7⟩ := pl_bd hpl
  unfold truncM
  refine keep_andThen hV fun x V1 _ e h1 => ?_
  obtain ⟨e1, rfl, _⟩ := tell_is e
  obtain ⟨i1, i2, _⟩ := taken_yes e1
  by_cases c1 : z < 0
  · rw [if_pos c1]; exact h1
  rw [if_neg c1]
  by_cases c2 : 67840 < z
  · rw [if_pos c2]; exact h1
  rw [if_neg c2]
  refine keep_andThen (cutFileS b5 x _ V1 h1).2 fun y V2 _ _ h2 => keep_andThen ?_ fun _ V3 _ _ h3 => keep_setI hpl i1 i2 _ h3
  unfold blankM
  by_cases c3 : z % 64 = 0
  · rw [if_pos c3]; exact h2
  rw [if_neg c3]
  refine keep_andThen h2 fun m V3 _ e3 h3 => keep_andThen h3 fun was V4 _ e4 h4 => ?_
  obtain ⟨e5, rfl, _⟩ := tell_is e4
  have hw := h3.data e5
  by_cases c4 : was.take (z % 64).toNat ++ List.replicate (64 - (z % 64).toNat) 0 = was
  · rw [if_pos c4]; exact h3
  · rw [if_neg c4]
    exact h3.upd _ _ (by rw [List.length_append, List.length_take, List.length_replicate, hw]; omega)
theorem keep_wloop : ∀ (cs : List Pc) (x : Ino) (t : List UInt8) (V : View), LenV n I V → LenV n I (wloop n I cs x t V).2.1
  | [], x, t, V, hV => hV
  | c :: cs, x, t, V, hV => by
    rw [wloop_piece]
    exact keep_andThen (keep_piece hpl (fun p hp => Pg.setTextN_length _ _ _ hp) _ _ hV) fun y V1 _ _ h1 => keep_wloop cs y _ V1 h1
theorem keep_write (i off : Int) (t : List UInt8) {V : View} (hV : LenV n I V) : LenV n I (writeM n I i off t V).2.1 := by
  unfold writeM
  refine keep_andThen hV fun x V1 _ e h1 => ?_
  obtain ⟨e1, rfl, _⟩ := tell_is e
  obtain ⟨i1, i2, _⟩ := taken_yes e1
  by_cases c1 : off < 0
  · rw [if_pos c1]; exact h1
  rw [if_neg c1]
  by_cases c2 : t = []
  · rw [if_pos c2]; exact h1
  rw [if_neg c2]
  by_cases c3 : 67840 - (t.length : Int) < off
  · rw [if_pos c3]; exact h1
  rw [if_neg c3]
  exact keep_andThen (keep_wloop hpl _ _ _ _ h1) fun y V2 _ _ h2 => keep_setI hpl i1 i2 _ h2
theorem keep_op (o : Fop) {V : View} (hV : LenV n I V) : LenV n I (opM n I o V).2.1 := by
  unfold opM
  by_cases k0 : o.k = 0
  · rw [if_pos k0]; exact keep_new hpl _ hV
  rw [if_neg k0]
  by_cases k1 : o.k = 1
  · rw [if_pos k1]; exact keep_andThen (keep_change hpl _ _ hV) fun _ _ _ _ h => h
  rw [if_neg k1]
  by_cases k2 : o.k = 2
  · rw [if_pos k2]; exact keep_andThen (keep_release hpl _ hV) fun _ _ _ _ h => h
  rw [if_neg k2]
  by_cases k3 : o.k = 3
  · rw [if_pos k3]; exact keep_andThen (keep_write hpl _ _ _ hV) fun _ _ _ _ h => h
  rw [if_neg k3]
  by_cases k4 : o.k = 4
  · rw [if_pos k4]; exact keep_andThen (keep_trunc hpl _ _ hV) fun _ _ _ _ h => h
  rw [if_neg k4]; exact hV
theorem cv_stepM (fl : Bool) : ∀ (os : List Fop) (V : View), LenV n I V → (∀ o ∈ os, o.text.length ≤ 512) → Cv (stepM n I fl os) V (17 * os.length)
  | [], V, _, _ => by
    unfold stepM tailM
    exact cv_ite (fun _ => cv_fail _) fun _ => cv_ret _
  | o :: os, V, hV, ht => by
    unfold stepM
    refine ((cv_op hpl o V hV (ht o (List.mem_cons_self ..))).andThen (k' := 17 * os.length) fun a V1 L1 e => ?_).mono (by rw [List.length_cons]; omega)
    exact cv_stepM fl os V1 (by have := keep_op hpl o hV; rw [e] at this; exact this) (fun o' ho' => ht o' (List.mem_cons_of_mem _ ho'))
end
end Go.Proofs.YtncmihikpcdgoaaGreat.Fs
namespace Go.Proofs.YtncmihikpcdgoaaGreat
open Dk (zeros zeros_length)
open Ii (Ino)
theorem cntU_cov (N : Nat) {L D : List Nat} (h : Fs.Cov L D) : Fs.cntU (noPgs N) L ≤ D.length + 2 := by
  refine Nat.le_trans ?_ (cntU_le N (0 :: 42 :: D))
  unfold Fs.cntU
  apply List.countP_mono_left
  intro i _ hi
  simp only [List.contains_eq_mem, Bool.or_eq_true, decide_eq_true_eq, List.mem_cons] at hi ⊢
  rcases hi with hi | hi
  · exact Or.inl hi
  · exact Or.inr (h i hi)
/-- a step of two ops has room -/
theorem room_step {α : Type} {s : Sto} {n I : Int} (v : Vs s n I) (hi : Idle s) {m : Fs.M α} {er : Int} (h : Fails s m er) (hc : Fs.Cv m (nv s) 34) : ∃ V L, m (nv s) = (.error er, V, L) := by
  rcases h with h | ⟨_, h2⟩
  · exact h
  · exfalso
    obtain ⟨D, h3, h4⟩ := hc
    rw [hi, v.r] at h2
    have := cntU_cov s.dk.last.length h4
    omega
theorem Vs.lenV {s : Sto} {n I : Int} (v : Vs s n I) : Fs.LenV n I (nv s) := fun m hm => by
  have := v.bd
  exact (v.read (i := m) ⟨by have := hm.1; omega, hm.2, by have := hm.1; omega⟩).2.2
end Go.Proofs.YtncmihikpcdgoaaGreat

namespace Go.Proofs.YtncmihikpcdgoaaGreat
open Go.RowKit Go.Maps
open Dk (zeros zeros_length)
open Ii (Ino)
namespace Fs
def u8 (z : Int) : UInt8 := UInt8.ofNat (z % 256).toNat
theorem u8_toNat (z : Int) : ((u8 z).toNat : Int) = z % 256 := by
  unfold u8
  rw [UInt8.toNat_ofNat']
  omega
def imgPart (n I i at1 : Int) (V : View) : List UInt8 := match readF n I i at1 300 V with
  | .ok t => 0 :: t
  | .error e => [u8 e]
def imgHead (x : Ino) : List UInt8 := [u8 0, u8 x.k, u8 x.p, u8 (x.p / 256), u8 x.u, u8 (x.u / 256), u8 x.l, u8 x.s, u8 (x.s / 256), u8 (x.s / 65536)]
def imgI (n I i : Int) (V : View) : List UInt8 := if (inoAt V i).k = 0 then imgHead (inoAt V i) else imgHead (inoAt V i) ++ imgPart n I i 0 V ++ imgPart n I i (max ((inoAt V i).s - 300) 0) V
def imgG (n I : Int) (V : View) : Nat → Int → List UInt8
  | 0, _ => []
  | c + 1, i => imgI n I i V ++ imgG n I V c (i + 1)
def imageF (n I : Int) (V : View) : List UInt8 := [u8 (freeV n I V), u8 (freeV n I V / 256), u8 (spareV I V)] ++ imgG n I V I.toNat 1
end Fs
namespace Fs
theorem textN_le (p : List UInt8) (hp : p.length ≤ 64) (a n : Int) : (Pg.textN p a n).length ≤ 64 := by
  unfold Pg.textN
  split
  · simp; omega
  · simp
theorem pcs_len : ∀ (f off n : Nat), (pcs f off n).length ≤ f := by
  intro f
  induction f with
  | zero => intro off n; exact Nat.le_refl _
  | succ f ih =>
    intro off n
    unfold pcs
    split
    · simp
    · simp only [List.length_cons]; have := ih (off + min n (64 - off % 64)) (n - min n (64 - off % 64)); omega
theorem dataF_len {n I m : Int} {V : View} (hV : ∀ m, isData n I m → (V m.toNat).length = 64) {p : List UInt8} (h : dataF n I m V = .ok p) : p.length ≤ 64 := by
  unfold dataF at h
  split at h
  · injection h with h; subst h; rw [zeros_length]; exact Nat.le_refl _
  · split at h
    · next c => injection h with h; subst h; rw [hV m c]; exact Nat.le_refl _
    · cases h
theorem pageF_len {n I i : Int} {x : Ino} {V : View} (hV : ∀ m, isData n I m → (V m.toNat).length = 64) {p : List UInt8} (h : pageF n I x i V = .ok p) : p.length ≤ 64 := by
  unfold pageF at h
  split at h
  · exact dataF_len hV h
  · cases h
theorem readG_len {n I : Int} {x : Ino} {V : View} (hV : ∀ m, isData n I m → (V m.toNat).length = 64) : ∀ (cs : List Pc) (t : List UInt8), readG n I x V cs = .ok t → t.length ≤ 64 * cs.length := by
  intro cs
  induction cs with
  | nil => intro t h; rw [readG_nil] at h; injection h with h; subst h; simp
  | cons c cs ih =>
    intro t h
    cases hp : pageF n I x c.idx V with
    | error e => rw [readG_bad hp] at h; cases h
    | ok p =>
      rw [readG_ok hp] at h
      cases hr : readG n I x V cs with
      | error e => rw [hr] at h; cases h
      | ok t2 =>
        rw [hr] at h
        unfold readT at h
        injection h with h
        subst h
        have h1 := ih t2 hr
        have h2 := textN_le p (pageF_len hV hp) c.at1 c.size
        rw [List.length_append, List.length_cons]
        omega
theorem readF_len {n I i off : Int} {V : View} (hV : ∀ m, isData n I m → (V m.toNat).length = 64) {t : List UInt8} (h : readF n I i off 300 V = .ok t) : t.length ≤ 19200 := by
  unfold readF at h
  split at h
  · cases h
  · split at h
    · cases h
    · have h1 := readG_len hV _ _ h
      unfold pieces at h1
      refine Nat.le_trans h1 (Nat.le_trans (Nat.mul_le_mul_left 64 (pcs_len _ _ _)) ?_)
      omega
end Fs
theorem Vs.dataLen {s : Sto} {n I : Int} (v : Vs s n I) (m : Int) (h : Fs.isData n I m) : (nv s m.toNat).length = 64 := by
  have := v.bd
  exact (v.read (i := m) ⟨by have := h.1; omega, h.2, by have := h.1; omega⟩).2.2
/-- what Read answers, and its part of the picture -/
theorem img_read (n I i off : Int) (V : Fs.View) (hV : ∀ m, Fs.isData n I m → (V m.toNat).length = 64) : ∃ (t : List UInt8) (er : Int), exV (fun l => Value.string (strOf l)) (.string ⟨#[]⟩) (Fs.readF n I i off 300 V) = .tuple #[.string (strOf t), .int .i64 er] ∧ Fs.imgPart n I i off V = Fs.u8 er :: t ∧ t.length ≤ 19200 := by
  unfold Fs.imgPart
  cases hr : Fs.readF n I i off 300 V with
  | ok t => exact ⟨t, 0, rfl, rfl, Fs.readF_len hV hr⟩
  | error e => exact ⟨[], e, rfl, rfl, by simp⟩
theorem byteV_u8 (z : Int) : Value.int .u8 (z % 256) = .int .u8 ((Fs.u8 z).toNat : Int) := by rw [Fs.u8_toNat]
theorem img_vals (x : Ino) : (byteVals (Fs.imgHead x)).toArray = #[.int .u8 0, .int .u8 (x.k % 256), .int .u8 (x.p % 256), .int .u8 (x.p / 256 % 256), .int .u8 (x.u % 256), .int .u8 (x.u / 256 % 256), .int .u8 (x.l % 256), .int .u8 (x.s % 256), .int .u8 (x.s / 256 % 256), .int .u8 (x.s / 65536 % 256)] := by
  rw [byteV_u8 x.k, byteV_u8 x.p, byteV_u8 (x.p / 256), byteV_u8 x.u, byteV_u8 (x.u / 256), byteV_u8 x.l, byteV_u8 x.s, byteV_u8 (x.s / 256), byteV_u8 (x.s / 65536)]
  rfl
theorem img_new (W : World) (x : Ino) : ∀ j u, (byteVals (Fs.imgHead x))[j]? = some u → (W.alloc (.cells #[.int .u8 0, .int .u8 (x.k % 256), .int .u8 (x.p % 256), .int .u8 (x.p / 256 % 256), .int .u8 (x.u % 256), .int .u8 (x.u / 256 % 256), .int .u8 (x.l % 256), .int .u8 (x.s % 256), .int .u8 (x.s / 256 % 256), .int .u8 (x.s / 65536 % 256)] 5)).cell? ((⟨W.heap.size, 0, none⟩ : Addr).add j) = some u := by
  rw [← img_vals]
  exact cell_new W _ _
theorem own_below {w w' : World} {base n : Nat} {e : TypeId} {v : Value} {xs : List Value} (h : w.ownsRow base e 1 v n xs) (hb : Below w.heap.size w w') : w'.ownsRow base e 1 v n xs := by
  refine ⟨h.1, ?_⟩
  rcases h.2 with hn | ⟨g, cap, cur, hv, hg0, hg, rest⟩
  · exact Or.inl hn
  · exact Or.inr ⟨g, cap, cur, hv, hg0, (hb.block g (Array.getElem?_eq_some_iff.1 hg).1).trans hg, rest⟩
theorem own_app {w : World} {base k : Nat} {e : TypeId} {A : Option Addr} {c : Nat} {l t : List UInt8} (h : w.ownsRow base e 1 (.slice A (l.length + k) c) (l.length + k) (byteVals l ++ byteVals t)) (hk : t.length = k) : w.ownsRow base e 1 (.slice A (l ++ t).length c) (l ++ t).length (byteVals (l ++ t)) := by
  have e1 : byteVals (l ++ t) = byteVals l ++ byteVals t := by unfold byteVals; rw [List.map_append]
  rw [e1, List.length_append, hk]
  exact h
set_option maxRecDepth 100000 in
theorem own_text {w : World} {base : Nat} {A : Option Addr} {c : Nat} {l : List UInt8} (h : w.ownsRow base 5 1 (.slice A l.length c) l.length (byteVals l)) : (convert 48 9 (.slice A l.length c)).run Tryz.prog w = .ok (.string (strOf l)) w := by
  rcases h.2 with ⟨hv, h0⟩ | ⟨g, cap, cur, hv, r⟩
  · injection hv with hA _ _
    subst hA
    have hl : l = [] := List.length_eq_zero_iff.1 h0
    subst hl
    exact run_convert_bytes_nil w 48 5 Tryz.underlying48 Tryz.underlying5 _ _ 9 Tryz.underlying9
  · injection hv with hA _ _
    subst hA
    refine run_convert_bytes_back (P := Tryz.prog) w 48 9 5 ⟨g, 0, none⟩ c l Tryz.underlying48 Tryz.underlying5 Tryz.underlying9 (fun j hj => ?_)
    exact h.cells (g := g) rfl j _ (by simp [byteVals, List.getElem?_eq_getElem hj])
theorem own_app1 {w : World} {base k : Nat} {e : TypeId} {A : Option Addr} {c : Nat} {l : List UInt8} {x : UInt8} {t : List UInt8} (h : w.ownsRow base e 1 (.slice A (l.length + 1 + k) c) (l.length + 1 + k) (byteVals l ++ [.int .u8 (x.toNat : Int)] ++ byteVals t)) (hk : t.length = k) : w.ownsRow base e 1 (.slice A (l ++ (x :: t)).length c) (l ++ (x :: t)).length (byteVals (l ++ (x :: t))) := by
  have e1 : byteVals (l ++ (x :: t)) = byteVals l ++ [.int .u8 (x.toNat : Int)] ++ byteVals t := by unfold byteVals; rw [List.map_append, List.map_cons, List.append_assoc]; rfl
  rw [e1, List.length_append, List.length_cons, show l.length + (t.length + 1) = l.length + 1 + k by omega]
  exact h
theorem byte_new (W : World) (z : Int) : ∀ j u, ([.int .u8 ((Fs.u8 z).toNat : Int)] : List Value)[j]? = some u → (W.alloc (.cells #[.int .u8 (z % 256)] 5)).cell? ((⟨W.heap.size, 0, none⟩ : Addr).add j) = some u := by
  rw [byteV_u8]
  exact cell_new W [.int .u8 ((Fs.u8 z).toNat : Int)] _
theorem heap_grown {w w' : World} {r : Option Nat} {P : Nat} {o : Obj} (hg : w.grownBy w' r) (h : w.heap[P]? = some o) (hr : r ≠ some P) : w'.heap[P]? = some o := (hg.block P (Array.getElem?_eq_some_iff.1 h).1 (fun e => hr e.symm)).trans h
theorem own_ne {w : World} {base : Nat} {e t : TypeId} {v : Value} {n : Nat} {xs : List Value} (h : w.ownsRow base e 1 v n xs) {P : Nat} {a : Array Value} (hP : w.heap[P]? = some (.cells a t (0, 0))) (ht : t ≠ e) : v.ownBlock ≠ some P := by
  intro hv
  rcases h.2 with ⟨rfl, _⟩ | ⟨g, cap, cur, rfl, _, hg, _⟩
  · cases hv
  · injection hv with hv
    simp only at hv
    subst hv
    rw [hP] at hg
    injection hg with hg
    injection hg with _ h2 _
    exact ht h2
set_option maxRecDepth 100000 in
set_option maxHeartbeats 4000000 in
theorem image_any {w : World} {V : Nat} {b : Blk} {s : Sto} {n I k : Int} (h : VolAt w V b s n I k) (v : Vs s n I) : Calls Tryz.prog 11 #[.pointer (some ⟨V, 0, none⟩)] w fun e w' => e = .returned (.string (strOf (Fs.imageF n I (nv s)))) ∧ Below w.heap.size w w' := by
  have bd := v.bd
  have hdl := v.dataLen
  have HF := Lib.hid (fun (W : World) (hb : Below w.heap.size w W) => vfree_any (h.below hb) v)
  have HS := Lib.hid (fun (W : World) (hb : Below w.heap.size w W) => vspare_any (h.below hb) v)
  have HP : Hid (∀ W, Below w.heap.size w W → Calls Tryz.prog 31 #[.pointer (some ⟨V, 0, none⟩)] W fun e w' => e = .returned (.agg #[.int .i64 n, .int .i64 I]) ∧ Below W.heap.size W w') := Lib.hid (fun (W : World) (hb : Below w.heap.size w W) => vplan_any (h.below hb))
  have HI := Lib.hid (fun (W : World) (hb : Below w.heap.size w W) (i : Int) => vinode_any (h.below hb) v i)
  have HRD := Lib.hid (fun (W : World) (hb : Below w.heap.size w W) (i off : Int) (ho : off ≤ 9223372036854775807) => vread_any (h.below hb) v i off 300 ho)
  have hfd : ∀ W : World, (Instr.field 63 (.agg #[.int .i64 n, .int .i64 I]) 1).run Tryz.prog W = .ok (.int .i64 I) W := fun _ => by kernel_rfl
  have S0 := Lib.hid (Lo.start (L := []) w (by simp))
  obtain ⟨f, hf⟩ : ∃ f, f = Fs.freeV n I (nv s) := ⟨_, rfl⟩
  obtain ⟨sp, hsp⟩ : ∃ f, f = Fs.spareV I (nv s) := ⟨_, rfl⟩
  rw [← hf] at HF
  rw [← hsp] at HS
  have HFB : Hid (f = Fs.freeV n I (nv s)) := Lib.hid hf
  have HSB : Hid (sp = Fs.spareV I (nv s)) := Lib.hid hsp
  clear hf hsp h v
  go_enter Tryz.func11, Tryz.ntmps11
  go_wp2_with (first
    | (go_at_call 25; refine (HF.out _ S0.out.bel).mono ?_; rintro e w' ⟨rfl, hb⟩; replace S0 := Lib.hid (S0.out.below hb); clear hb)
    | (go_at_call 29; refine (HS.out _ S0.out.bel).mono ?_; rintro e w' ⟨rfl, hb⟩; replace S0 := Lib.hid (S0.out.below hb); clear hb))
  generalize hW : World.alloc w' _ = W1
  have HO1 : Hid (W1.ownsRow w.heap.size 5 1 (.slice (some ⟨w'.heap.size, 0, none⟩) 3 3) ([Fs.u8 f, Fs.u8 (f / 256), Fs.u8 sp] : List UInt8).length (byteVals [Fs.u8 f, Fs.u8 (f / 256), Fs.u8 sp])) := Lib.hid (by
    rw [← hW]
    have := World.ownsRow_lit (base := w.heap.size) (e := 5) (size := 1) w' #[.int .u8 (f % 256), .int .u8 (f / 256 % 256), .int .u8 (sp % 256)] 3 S0.out.bel.size (by unfold maxLen; omega) rfl
    rw [byteV_u8 f, byteV_u8 (f / 256), byteV_u8 sp] at this ⊢
    exact this)
  have S1 : Hid (Lo [] w [] W1) := Lib.hid (by rw [← hW]; exact S0.out.skip _)
  have HT1 : Hid ([Fs.u8 f, Fs.u8 (f / 256), Fs.u8 sp] ++ Fs.imgG n I (nv s) I.toNat 1 = Fs.imageF n I (nv s)) := Lib.hid (by rw [HFB.out, HSB.out]; rfl)
  have HL1 : Hid (∃ l, l = [Fs.u8 f, Fs.u8 (f / 256), Fs.u8 sp]) := Lib.hid ⟨_, rfl⟩
  obtain ⟨l1, hl1⟩ := HL1.out
  have HLN : Hid (l1.length = 3) := Lib.hid (by rw [hl1]; rfl)
  rw [← hl1] at HO1 HT1
  clear hl1
  clear hW HF HS HFB HSB S0 HL1
  have HT0 := Lib.hid hdl
  clear hdl
  obtain ⟨i0, hi0, hz0⟩ := Option.map_eq_some_iff.1 info_byte
  have HI0 := Lib.hid hi0
  have HZ0 : Hid (i0.zero = some (.int .u8 0)) := Lib.hid (by
    have := zero_byte
    rw [hi0] at this
    simpa using this)
  have HS0 : Hid (i0.size = 1) := Lib.hid (congrArg Prod.fst hz0)
  have HB0 : Hid (i0.bytes = 1) := Lib.hid (congrArg Prod.snd hz0)
  clear hi0 hz0
  go_loopw [3, 4] (fun sl i wr => ∃ (q m : Nat) (l : List UInt8) (A : Option Addr) (c : Nat), q + m = I.toNat ∧ i = .int .i64 ((q : Int) + 1) ∧ sl = .slice A l.length c ∧ Hid (wr.ownsRow w.heap.size 5 1 (.slice A l.length c) l.length (byteVals l)) ∧ Lo [] w [] wr ∧ Hid (l ++ Fs.imgG n I (nv s) m ((q : Int) + 1) = Fs.imageF n I (nv s)) ∧ l.length ≤ 3 + 40000 * q) (fun _ i _ => I.toNat + 1 - (intOf i).toNat)
  case atStart => exact ⟨0, I.toNat, l1, some ⟨w'.heap.size, 0, none⟩, 3, by omega, rfl, by rw [HLN.out], by rw [HLN.out] at HO1 ⊢; exact HO1, S1.out, HT1, by rw [HLN.out]; omega⟩
  case round =>
    clear HO1 S1 HT1
    obtain ⟨q, m, l, A, c, hqm, rfl, rfl, HO, hS, HT, hln⟩ := hrel
    have S := Lib.hid hS
    clear hS
    have HX := Lib.hid (fun (W : World) (hb : Below w.heap.size w W) => HI.out W hb ((q : Int) + 1))
    by_cases hq : (q : Int) + 1 ≤ I
    · obtain ⟨m, rfl⟩ : ∃ m', m = m' + 1 := ⟨m - 1, by omega⟩
      unfold Fs.inodeF at HX
      rw [if_pos ⟨by omega, hq⟩] at HX
      unfold exV at HX
      obtain ⟨x, hx⟩ : ∃ x, x = Fs.inoAt (nv s) ((q : Int) + 1) := ⟨_, rfl⟩
      rw [← hx] at HX
      have HXE := Lib.hid hx
      clear hx
      obtain ⟨t0, er0, e0, e0', l0⟩ := img_read n I ((q : Int) + 1) 0 (nv s) HT0.out
      obtain ⟨t1, er1, e1, e1', l1'⟩ := img_read n I ((q : Int) + 1) (max (x.s - 300) 0) (nv s) HT0.out
      have E0 := Lib.hid e0'
      have E1 := Lib.hid e1'
      have L0 := Lib.hid l0
      have L1 := Lib.hid l1'
      have hs0 : 0 ≤ x.s ∧ x.s < 4294967296 := by rw [HXE.out]; exact ino_size _ _
      have HR0 := Lib.hid (fun (W : World) (hb : Below w.heap.size w W) => HRD.out W hb ((q : Int) + 1) (max 0 0) (by omega))
      have HR1 := Lib.hid (fun (W : World) (hb : Below w.heap.size w W) => HRD.out W hb ((q : Int) + 1) (max (x.s - 300) 0) (by omega))
      rw [show (max 0 0 : Int) = 0 from rfl, e0] at HR0
      rw [e1] at HR1
      have hs1 : IntKind.i64.wrap (x.s - 300) = x.s - 300 := IntWalk.i64_in _ (by omega)
      clear e0 e1 e0' e1' l0 l1'
      by_cases hk : x.k = 0
      all_goals
        have HK := Lib.hid hk
        clear hk
      · go_wp2_with (first
          | (go_at_call 31; refine (HP.out _ S.out.bel).mono ?_; rintro e w5 ⟨rfl, hb⟩; replace HO := Lib.hid (own_below HO.out hb); replace S := Lib.hid (S.out.below hb); clear hb)
          | (go_at_call 26; refine (HX.out _ S.out.bel).mono ?_; rintro e w6 ⟨rfl, hb⟩; replace HO := Lib.hid (own_below HO.out hb); replace S := Lib.hid (S.out.below hb); clear hb)
          | ((with_reducible refine wpList_store_newrow (vs := inoL x) inoT ?_ (inoL_one _) rfl (.tmp 5) (.tmp 33) rfl rfl ?_ ?_ ?_); (exact rfl); (exact rfl); (exact rfl); intro W4 hP hB2 hz2; have S2 := Lib.hid (S.out.made hP hB2 hz2); have HO2 := Lib.hid (own_below HO.out hB2); clear hP hB2 hz2; have c0 := (S2.out.get 0 _ rfl).cell 0 _ rfl; have c1 := (S2.out.get 0 _ rfl).cell 1 _ rfl; have c2 := (S2.out.get 0 _ rfl).cell 2 _ rfl; have c3 := (S2.out.get 0 _ rfl).cell 3 _ rfl; have c4 := (S2.out.get 0 _ rfl).cell 4 _ rfl; have HNW := Lib.hid (img_new W4 x); have HO3 := Lib.hid (HO2.out.alloc (.cells #[.int .u8 0, .int .u8 (x.k % 256), .int .u8 (x.p % 256), .int .u8 (x.p / 256 % 256), .int .u8 (x.u % 256), .int .u8 (x.u / 256 % 256), .int .u8 (x.l % 256), .int .u8 (x.s % 256), .int .u8 (x.s / 256 % 256), .int .u8 (x.s / 65536 % 256)] 5)); have S3 := Lib.hid (S2.out.skip (.cells #[.int .u8 0, .int .u8 (x.k % 256), .int .u8 (x.p % 256), .int .u8 (x.p / 256 % 256), .int .u8 (x.u % 256), .int .u8 (x.u / 256 % 256), .int .u8 (x.l % 256), .int .u8 (x.s % 256), .int .u8 (x.s / 256 % 256), .int .u8 (x.s / 65536 % 256)] 5)); have HSZ := Lib.hid S3.out.bel.size; have HLT := Lib.hid (fun j hj => HO.out.lt j hj))
          | (at_builtin; go_must (refine wpList_append_own_at _ rfl (.tmp 35) (.tmp 69) 48 rfl w.heap.size 5 i0 _ 1 1 Tryz.underlying48 HI0.out HZ0.out HS0.out HB0.out rfl (by omega) _ l.length _ rfl HO3.out ⟨W4.heap.size, 0, none⟩ 10 10 (byteVals (Fs.imgHead x)) rfl rfl HNW.out (byteVals_one _) (by unfold maxLen; omega) (by omega) HSZ.out ?_; intro v' w7 hown' hgrow hnil hloc; obtain ⟨A', c', rfl⟩ := owns_slice hown'; have S4 := Lib.hid (S3.out.grown hgrow (fun j hj => ⟨(HO3.out.lt j hj).1, fun x hx => by simp only [List.nil_append, List.mem_singleton] at hx; subst hx; have := (HLT.out j hj).2; simp only; omega⟩)); have HO4 := Lib.hid hown'; clear hown' hgrow hnil hloc; replace c0 := (S4.out.get 0 _ rfl).cell 0 _ rfl; replace c4 := (S4.out.get 0 _ rfl).cell 4 _ rfl; have hk := HK.out)))
        have HT2 : Hid ((l ++ Fs.imgHead x) ++ Fs.imgG n I (nv s) m (((q + 1 : Nat) : Int) + 1) = Fs.imageF n I (nv s)) := Lib.hid (by
          rw [← HT.out, Fs.imgG]
          unfold Fs.imgI
          rw [← HXE.out, if_pos HK.out, List.append_assoc]
          congr 3)
        have HO5 := Lib.hid (own_app HO4.out (t := Fs.imgHead x) rfl)
        go_roundw
        case rel => exact ⟨q + 1, m, l ++ Fs.imgHead x, A', c', by omega, by go_num, (by rw [List.length_append]; rfl), HO5, S4.out.cut 0, HT2, by rw [List.length_append]; have : (Fs.imgHead x).length = 10 := rfl; omega⟩
        case measure => simp [intOf]; omega
      · go_wp2_with (first
          | (go_at_call 31; refine (HP.out _ S.out.bel).mono ?_; rintro e w5 ⟨rfl, hb⟩; replace HO := Lib.hid (own_below HO.out hb); replace S := Lib.hid (S.out.below hb); clear hb)
          | (go_at_call 26; refine (HX.out _ S.out.bel).mono ?_; rintro e w6 ⟨rfl, hb⟩; replace HO := Lib.hid (own_below HO.out hb); replace S := Lib.hid (S.out.below hb); clear hb)
          | ((with_reducible refine wpList_store_newrow (vs := inoL x) inoT ?_ (inoL_one _) rfl (.tmp 5) (.tmp 33) rfl rfl ?_ ?_ ?_); (exact rfl); (exact rfl); (exact rfl); intro W4 hP hB2 hz2; have S2 := Lib.hid (S.out.made hP hB2 hz2); have HO2 := Lib.hid (own_below HO.out hB2); clear hP hB2 hz2; have c0 := (S2.out.get 0 _ rfl).cell 0 _ rfl; have c1 := (S2.out.get 0 _ rfl).cell 1 _ rfl; have c2 := (S2.out.get 0 _ rfl).cell 2 _ rfl; have c3 := (S2.out.get 0 _ rfl).cell 3 _ rfl; have c4 := (S2.out.get 0 _ rfl).cell 4 _ rfl; have HNW := Lib.hid (img_new W4 x); have HO3 := Lib.hid (HO2.out.alloc (.cells #[.int .u8 0, .int .u8 (x.k % 256), .int .u8 (x.p % 256), .int .u8 (x.p / 256 % 256), .int .u8 (x.u % 256), .int .u8 (x.u / 256 % 256), .int .u8 (x.l % 256), .int .u8 (x.s % 256), .int .u8 (x.s / 256 % 256), .int .u8 (x.s / 65536 % 256)] 5)); have S3 := Lib.hid (S2.out.skip (.cells #[.int .u8 0, .int .u8 (x.k % 256), .int .u8 (x.p % 256), .int .u8 (x.p / 256 % 256), .int .u8 (x.u % 256), .int .u8 (x.u / 256 % 256), .int .u8 (x.l % 256), .int .u8 (x.s % 256), .int .u8 (x.s / 256 % 256), .int .u8 (x.s / 65536 % 256)] 5)); have HSZ := Lib.hid S3.out.bel.size; have HLT := Lib.hid (fun j hj => HO.out.lt j hj))
          | (at_builtin; go_must (refine wpList_append_own_at _ rfl (.tmp 35) (.tmp 69) 48 rfl w.heap.size 5 i0 _ 1 1 Tryz.underlying48 HI0.out HZ0.out HS0.out HB0.out rfl (by omega) _ l.length _ rfl HO3.out ⟨W4.heap.size, 0, none⟩ 10 10 (byteVals (Fs.imgHead x)) rfl rfl HNW.out (byteVals_one _) (by unfold maxLen; omega) (by omega) HSZ.out ?_; intro v' w7 hown' hgrow hnil hloc; obtain ⟨A', c', rfl⟩ := owns_slice hown'; have S4 := Lib.hid (S3.out.grown hgrow (fun j hj => ⟨(HO3.out.lt j hj).1, fun x hx => by simp only [List.nil_append, List.mem_singleton] at hx; subst hx; have := (HLT.out j hj).2; simp only; omega⟩)); have HO4 := Lib.hid hown'; clear hown' hgrow hnil hloc; replace c0 := (S4.out.get 0 _ rfl).cell 0 _ rfl; replace c4 := (S4.out.get 0 _ rfl).cell 4 _ rfl; have hk := HK.out)))
        generalize hP : w7.heap.size = P
        have HH : Hid ((w7.alloc (Obj.cells #[Value.int IntKind.i64 0, Value.int IntKind.i64 (x.s - 300)] 3)).heap[P]? = some (.cells #[.int .i64 0, .int .i64 (x.s - 300)] 3 (0, 0))) := Lib.hid (by rw [← hP]; exact heap_alloc_new w7 _)
        have HO5 := Lib.hid ((own_app HO4.out (t := Fs.imgHead x) rfl).alloc (Obj.cells #[Value.int IntKind.i64 0, Value.int IntKind.i64 (x.s - 300)] 3))
        have S5 := Lib.hid ((S4.out.cut 0).skip (Obj.cells #[Value.int IntKind.i64 0, Value.int IntKind.i64 (x.s - 300)] 3))
        have HT5 : Hid ((l ++ Fs.imgHead x) ++ ((([Fs.u8 er0 :: t0, Fs.u8 er1 :: t1].drop 0).flatten) ++ Fs.imgG n I (nv s) m (((q + 1 : Nat) : Int) + 1)) = Fs.imageF n I (nv s)) := Lib.hid (by
          rw [← HT.out, Fs.imgG]
          unfold Fs.imgI
          rw [← HXE.out, if_neg HK.out, E0.out, E1.out]
          have : ((q + 1 : Nat) : Int) + 1 = (q : Int) + 1 + 1 := by omega
          rw [this]
          simp)
        have HLQ : Hid ((l ++ Fs.imgHead x).length = l.length + 10) := Lib.hid (by rw [List.length_append]; rfl)
        clear c0 c4 hk HO HO2 HO3 HO4 HNW HT S S2 S3 S4 HSZ HLT hP
        generalize hW5 : World.alloc w7 _ = W5 at HH HO5 S5 ⊢
        clear hW5
        go_loopw [3, 79] (fun sl at1 wr => ∃ (j : Nat) (l2 : List UInt8) (A : Option Addr) (c : Nat), j ≤ 2 ∧ at1 = .int .i64 (j : Int) ∧ sl = .slice A l2.length c ∧ Hid (wr.ownsRow w.heap.size 5 1 (.slice A l2.length c) l2.length (byteVals l2)) ∧ Lo [] w [] wr ∧ Hid (wr.heap[P]? = some (.cells #[.int .i64 0, .int .i64 (x.s - 300)] 3 (0, 0))) ∧ Hid (l2 ++ ((([Fs.u8 er0 :: t0, Fs.u8 er1 :: t1].drop j).flatten) ++ Fs.imgG n I (nv s) m (((q + 1 : Nat) : Int) + 1)) = Fs.imageF n I (nv s)) ∧ l2.length ≤ 13 + 40000 * q + 19201 * j) (fun _ at1 _ => 2 - (intOf at1).toNat)
        case atStart => exact ⟨0, l ++ Fs.imgHead x, A', c', by omega, rfl, (by rw [HLQ.out]), HO5, S5.out, HH, HT5, by rw [HLQ.out]; omega⟩
        case round =>
          clear HO5 S5 HH HT5
          obtain ⟨j, l2, A2, c2, hj, rfl, rfl, HO, hS, HH, HT, hl2⟩ := hrel
          have S := Lib.hid hS
          clear hS
          by_cases hj2 : j < 2
          · obtain ⟨off, t, er, hcell, hread, hrest, htl, ho1, ho2⟩ : ∃ (off : Int) (t : List UInt8) (er : Int), (#[.int .i64 0, .int .i64 (x.s - 300)] : Array Value)[j]? = some (.int .i64 off) ∧ (∀ (W : World), Below w.heap.size w W → Calls Tryz.prog 27 #[.pointer (some ⟨V, 0, none⟩), .int .i64 ((q : Int) + 1), .int .i64 (max off 0), .int .i64 300] W fun e w' => e = .returned (.tuple #[.string (strOf t), .int .i64 er]) ∧ Below W.heap.size W w') ∧ ([Fs.u8 er0 :: t0, Fs.u8 er1 :: t1].drop j).flatten = (Fs.u8 er :: t) ++ ([Fs.u8 er0 :: t0, Fs.u8 er1 :: t1].drop (j + 1)).flatten ∧ t.length ≤ 19200 ∧ -9223372036854775808 ≤ off ∧ off ≤ 9223372036854775807 := by
              rcases (show j = 0 ∨ j = 1 by omega) with rfl | rfl
              · exact ⟨0, t0, er0, rfl, HR0.out, rfl, L0.out, by omega, by omega⟩
              · exact ⟨x.s - 300, t1, er1, rfl, HR1.out, by simp, L1.out, by omega, by omega⟩
            have HRR := Lib.hid hread
            have HC := Lib.hid hcell
            have HRS := Lib.hid hrest
            clear hread hrest hcell
            have cj : wr.cell? ⟨P, j, none⟩ = some (.int .i64 off) := by rw [Lib.cell_of_heap HH.out]; exact HC.out
            have HSZ : Hid ((strOf t).size = t.length) := Lib.hid (str_size t)
            generalize hst : strOf t = st at HRR HSZ
            have HST : Hid (Lib.strCells st = byteVals t) := Lib.hid (by rw [strCells_byteVals, ← hst]; rfl)
            clear hst
            go_wp2_with (first
              | (go_at_call 27; refine (HRR.out _ S.out.bel).mono ?_; rintro e w6 ⟨rfl, hb⟩; replace HO := Lib.hid (own_below HO.out hb); replace HH := Lib.hid ((hb.block P (Array.getElem?_eq_some_iff.1 HH.out).1).trans HH.out); replace S := Lib.hid (S.out.below hb); clear hb; have HNW := Lib.hid (byte_new w6 er); have HO3 := Lib.hid (HO.out.alloc (.cells #[.int .u8 (er % 256)] 5)); have S3 := Lib.hid (S.out.skip (.cells #[.int .u8 (er % 256)] 5)); have HH3 := Lib.hid (show (w6.alloc (.cells #[.int .u8 (er % 256)] 5)).heap[P]? = _ from (heap_alloc_old w6 _ (Array.getElem?_eq_some_iff.1 HH.out).1).trans HH.out); have HSZ3 := Lib.hid S3.out.bel.size)
              | (at_builtin; (refine wpList_append_own_at _ rfl (.tmp 91) (.tmp 94) 48 rfl w.heap.size 5 i0 _ 1 1 Tryz.underlying48 HI0.out HZ0.out HS0.out HB0.out rfl (by omega) _ l2.length _ rfl HO3.out ⟨w6.heap.size, 0, none⟩ 1 1 [.int .u8 ((Fs.u8 er).toNat : Int)] rfl rfl HNW.out (by simp [Value.oneCell']) (by unfold maxLen; omega) (by omega) HSZ3.out ?_; intro v' w7 hown' hgrow hnil hloc; obtain ⟨A', c', rfl⟩ := owns_slice hown'; have S4 := Lib.hid (S3.out.grown hgrow (fun j hj => ⟨(HO3.out.lt j hj).1, fun x hx => by simp at hx⟩)); have HH4 := Lib.hid (heap_grown hgrow HH3.out (own_ne HO3.out HH3.out (by decide))); have HO4 := Lib.hid hown'; have HSZ4 := Lib.hid S4.out.bel.size; clear hown' hgrow hnil hloc))
              | (at_builtin; go_must (refine Lib.wpList_append_own_string _ rfl (.tmp 96) (.tmp 97) 48 9 rfl w.heap.size 5 i0 Tryz.underlying48 Tryz.underlying9 HI0.out HZ0.out HS0.out HB0.out _ (l2.length + 1) _ rfl HO4.out st rfl (by unfold maxLen; have := HSZ.out; omega) (by have := HSZ.out; omega) HSZ4.out ?_; intro v' w8 hown' hgrow hnil; obtain ⟨A8, c8, rfl⟩ := owns_slice hown'; have S8 := Lib.hid (S4.out.grown hgrow (fun j hj => ⟨(HO4.out.lt j hj).1, fun x hx => by simp at hx⟩)); have HH8 := Lib.hid (heap_grown hgrow HH4.out (own_ne HO4.out HH4.out (by decide))); have HO8 := Lib.hid (own_app1 (l := l2) (x := Fs.u8 er) (t := t) (k := st.size) (by rw [← HST.out]; exact hown') HSZ.out.symm); clear hown' hgrow hnil)))
            have HT8 : Hid ((l2 ++ (Fs.u8 er :: t)) ++ ((([Fs.u8 er0 :: t0, Fs.u8 er1 :: t1].drop (j + 1)).flatten) ++ Fs.imgG n I (nv s) m (((q + 1 : Nat) : Int) + 1)) = Fs.imageF n I (nv s)) := Lib.hid (by rw [← HT.out, HRS.out]; simp only [List.append_assoc])
            have HL8 : Hid ((l2 ++ (Fs.u8 er :: t)).length = l2.length + 1 + st.size) := Lib.hid (by rw [List.length_append, List.length_cons, HSZ.out]; omega)
            go_roundw
            case rel => exact ⟨j + 1, l2 ++ (Fs.u8 er :: t), A8, c8, by omega, by go_num, by rw [HL8.out], HO8, S8.out, HH8, HT8, by rw [HL8.out]; have := HSZ.out; omega⟩
            case measure => simp [intOf]; omega
          · obtain rfl : j = 2 := by omega
            go_wp2_with fail
            go_roundw
            case rel => exact ⟨q + 1, m, l2, A2, c2, by omega, by go_num, rfl, HO, S.out, Lib.hid (by have := HT.out; simpa using this), by omega⟩
            case measure => simp [intOf]; omega
    · obtain rfl : m = 0 := by omega
      have HCV : Hid (∀ W, W.ownsRow w.heap.size 5 1 (.slice A l.length c) l.length (byteVals l) → (convert 48 9 (.slice A l.length c)).run Tryz.prog W = .ok (.string (strOf l)) W) := Lib.hid (fun W => own_text)
      have HRES : Hid (l = Fs.imageF n I (nv s)) := Lib.hid (by have := HT.out; rw [Fs.imgG, List.append_nil] at this; exact this)
      go_wp2_with (first
        | (go_at_call 31; refine (HP.out _ S.out.bel).mono ?_; rintro e w5 ⟨rfl, hb⟩; replace HO := Lib.hid (own_below HO.out hb); replace S := Lib.hid (S.out.below hb); clear hb; have hcv := HCV.out _ HO.out))
      go_ret
      exact ⟨congrArg (fun z => Ending.returned (.string (strOf z))) HRES.out, S.out.bel⟩
end Go.Proofs.YtncmihikpcdgoaaGreat
