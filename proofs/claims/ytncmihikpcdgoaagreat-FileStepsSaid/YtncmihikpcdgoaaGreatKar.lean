/- Texts of the proof: Fpair, Fgreat. -/
import Derived.Test.YtncmihikpcdgoaaGreatKaq
import Derived.Test.YtncmihikpcdgoaaGreatKap
namespace Go.Proofs.YtncmihikpcdgoaaGreat
open Dk (zeros zeros_length)
open Ii (Ino)
namespace Fs
section
variable {n I : Int} (hpl : Pl.rightB n I = true)
include hpl
theorem loc_imgPart (i at1 : Int) : LocT n (imgPart n I i at1) := fun V V' h => by
  unfold imgPart
  rw [loc_readF hpl i at1 300 V V' h]
theorem loc_imgI {i : Int} (h1 : 1 ≤ i) (h2 : i ≤ I) : LocT n (imgI n I i) := fun V V' h => by
  have e : inoAt V i = inoAt V' i := loc_ino hpl h1 h2 V V' h
  unfold imgI
  rw [e, loc_imgPart hpl i 0 V V' h, loc_imgPart hpl i _ V V' h]
theorem loc_imgG : ∀ (c : Nat) (i : Int), 1 ≤ i → i + c ≤ I + 1 → LocT n (fun V => imgG n I V c i)
  | 0, _, _, _ => fun _ _ _ => rfl
  | c + 1, i, h1, h2 => fun V V' h => by
    show imgG n I V (c + 1) i = imgG n I V' (c + 1) i
    rw [imgG, imgG, loc_imgI hpl h1 (by omega) V V' h]
    exact congrArg _ (loc_imgG c (i + 1) (by omega) (by omega) V V' h)
theorem loc_image : LocT n (imageF n I) := fun V V' h => by
  obtain ⟨b1, b2, b3, b4, b5, b6, b7⟩ := pl_bd hpl
  unfold imageF
  rw [loc_free hpl V V' h, loc_spare hpl V V' h]
  exact congrArg _ (loc_imgG hpl I.toNat 1 (by omega) (by omega) V V' h)
end
end Fs
section
variable {α : Type} {s u : Sto} {n I : Int} {k k' : Nat} {m : Fs.M α}
theorem Calm.pure (h : Calm u n I k) (hk : k ≤ 100) (hc : Fs.Cv m (nv u) 34) {er : Int} {u2 : Sto} {a : Option α} (ht : StepTo n I u m er u2 a) :
    Calm u2 n I (k + 1) ∧ ((∃ x V L, m (nv u) = (.ok x, V, L) ∧ er = 0 ∧ ∀ i, Out n i → nv u2 i = V i) ∨ (∃ V L, m (nv u) = (.error er, V, L) ∧ er ≠ 0 ∧ u2 = u)) := by
  obtain ⟨q, h1⟩ := h.step hk ht
  refine ⟨q, ?_⟩
  rcases h1 with ⟨x, V, L, e, e1, _, e2⟩ | ⟨f, h0, _, e2⟩
  · exact Or.inl ⟨x, V, L, e, e1, e2⟩
  · obtain ⟨V, L, e⟩ := room_step h.vs h.idle f hc
    exact Or.inr ⟨V, L, e, h0, e2⟩
theorem Calm.two (hs : Calm s n I k) (hu : Calm u n I k') (hk : k ≤ 100) (hk' : k' ≤ 100) (E : Fs.Eqv n (nv s) (nv u)) (hl : Fs.Loc n m) (c1 : Fs.Cv m (nv s) 34) (c2 : Fs.Cv m (nv u) 34) {er er' : Int} {s2 u2 : Sto} {a a' : Option α} (ht : StepTo n I s m er s2 a) (ht' : StepTo n I u m er' u2 a') :
    Calm s2 n I (k + 1) ∧ Calm u2 n I (k' + 1) ∧ Fs.Eqv n (nv s2) (nv u2) := by
  obtain ⟨q1, A⟩ := hs.pure hk c1 ht
  obtain ⟨q2, B⟩ := hu.pure hk' c2 ht'
  refine ⟨q1, q2, ?_⟩
  obtain ⟨l1, l2, _⟩ := hl _ _ E
  rcases A with ⟨x, V, L, e, _, e2⟩ | ⟨V, L, e, _, rfl⟩
  · rcases B with ⟨x', V', L', e', _, e2'⟩ | ⟨V', L', e', _, _⟩
    · rw [e, e'] at l2
      intro i h1 h2
      rw [e2 i ⟨h2, Or.inr h1⟩, e2' i ⟨h2, Or.inr h1⟩]
      exact l2 i h1 h2
    · rw [e, e'] at l1; cases l1
  · rcases B with ⟨x', V', L', e', _, e2'⟩ | ⟨V', L', e', _, rfl⟩
    · rw [e, e'] at l1; cases l1
    · exact E
end
/-- so many ops of a step are done one by one: what is left of it -/
def Lft (n I : Int) (fl : Bool) (os : List Fop) (V0 : Fs.View) (k : Nat) (U : Fs.View) : Prop := ∃ Vk Lk, Fs.stepM n I fl os V0 = ((Fs.stepM n I fl (os.drop k) Vk).1, (Fs.stepM n I fl (os.drop k) Vk).2.1, Lk ++ (Fs.stepM n I fl (os.drop k) Vk).2.2) ∧ Fs.Eqv n Vk U
section
variable {n I : Int} {fl : Bool} {os : List Fop} {V0 U : Fs.View} {k : Nat} {o : Fop}
theorem Lft.start (h : Fs.Eqv n V0 U) : Lft n I fl os V0 0 U := ⟨V0, [], rfl, h⟩
theorem Lft.skip (h : Lft n I fl os V0 k U) (ho : os[k]? = some o) (h4 : 4 < o.k) : Lft n I fl os V0 (k + 1) U := by
  obtain ⟨Vk, Lk, e, E⟩ := h
  have e2 : Fs.opM n I o = Fs.ret 0 := by
    unfold Fs.opM
    rw [if_neg (by omega), if_neg (by omega), if_neg (by omega), if_neg (by omega), if_neg (by omega)]
  rw [stepM_drop ho, e2, Fs.ret_andThen] at e
  exact ⟨Vk, Lk, e, E⟩
theorem Lft.ok (hpl : Pl.rightB n I = true) (h : Lft n I fl os V0 k U) (ho : os[k]? = some o) {x : Int} {V : Fs.View} {L : List Nat} (hop : Fs.opM n I o U = (.ok x, V, L)) {U' : Fs.View} (hU : ∀ i, Out n i → U' i = V i) : Lft n I fl os V0 (k + 1) U' := by
  obtain ⟨Vk, Lk, e, E⟩ := h
  obtain ⟨l1, l2, _⟩ := Fs.loc_op hpl o _ _ E
  rcases e1 : Fs.opM n I o Vk with ⟨r, V1, L1⟩
  rw [e1, hop] at l1 l2
  simp only at l1 l2
  subst l1
  rw [stepM_drop ho, Fs.andThen_ok e1] at e
  refine ⟨V1, Lk ++ L1, by rw [e, List.append_assoc], fun i h1 h2 => ?_⟩
  rw [hU i ⟨h2, Or.inr h1⟩]
  exact l2 i h1 h2
theorem Lft.bad (hpl : Pl.rightB n I = true) (h : Lft n I fl os V0 k U) (ho : os[k]? = some o) {er : Int} {V : Fs.View} {L : List Nat} (hop : Fs.opM n I o U = (.error er, V, L)) : (Fs.stepM n I fl os V0).1 = .error er := by
  obtain ⟨Vk, Lk, e, E⟩ := h
  obtain ⟨l1, _, _⟩ := Fs.loc_op hpl o _ _ E
  rcases e1 : Fs.opM n I o Vk with ⟨r, V1, L1⟩
  rw [e1, hop] at l1
  simp only at l1
  subst l1
  rw [stepM_drop ho, Fs.andThen_err e1] at e
  rw [e]
theorem Lft.fin (h : Lft n I fl os V0 k U) (hk : os.length ≤ k) : (fl = true → (Fs.stepM n I fl os V0).1 = .error 1) ∧ (fl = false → ∃ L V, Fs.stepM n I fl os V0 = (.ok (), V, L) ∧ Fs.Eqv n V U) := by
  obtain ⟨Vk, Lk, e, E⟩ := h
  rw [List.drop_eq_nil_of_le hk] at e
  refine ⟨fun q => ?_, fun q => ?_⟩
  · subst q; rw [e]; rfl
  · subst q; exact ⟨_, _, e, E⟩
end
end Go.Proofs.YtncmihikpcdgoaaGreat

namespace Go.Proofs.YtncmihikpcdgoaaGreat
open Go.RowKit Go.Maps
open Dk (zeros zeros_length)
open Ii (Ino)
def GreatGive (most : Nat) (os : List Fop) (w : World) (e : Ending) (w' : World) : Prop :=
  ∃ g : Bool, e = .returned (.bool g) ∧ (g = false → os.length ≤ most ∧ ∀ o ∈ os, o.text.length ≤ 512) ∧ Below w.heap.size w w'
set_option maxRecDepth 100000 in
set_option maxHeartbeats 2000000 in
theorem fgreat_any {w : World} {A : Option Addr} {n c most : Nat} {os : List Fop} (h : FopRow w A n os) (hm : most ≤ 1000) : Calls Tryz.prog 8 #[.slice A n c, .int .i64 (most : Int)] w (GreatGive most os w) := by
  have hsm := h.small
  have HR := Lib.hid h
  have HL := Lib.hid h.len
  have S0 := Lib.hid (Lo.start (L := []) w (by simp))
  unfold maxLen at hsm
  clear h
  by_cases hgr : (most : Int) < (n : Int)
  · go_enter Tryz.func8, Tryz.ntmps8
    go_wp2_with fail
    go_ret
    exact ⟨true, rfl, (fun q => by cases q), Below.refl _ _⟩
  · go_enter Tryz.func8, Tryz.ntmps8
    go_wp2_with fail
    go_loopw [13] (fun i wr => ∃ (k : Nat), k ≤ n ∧ i = .int .i64 k ∧ Lo [] w [] wr ∧ Hid (∀ j o, j < k → os[j]? = some o → o.text.length ≤ 512)) (fun i _ => n - (intOf i).toNat)
    case atStart => exact ⟨0, Nat.zero_le _, rfl, S0.out, Lib.hid (fun j o hj => by omega)⟩
    case round =>
      clear S0
      obtain ⟨k, hk, rfl, hS, HG⟩ := hrel
      have S := Lib.hid hS
      clear hS
      by_cases hlt : k < n
      · obtain ⟨o, ho⟩ : ∃ o, os[k]? = some o := ⟨_, List.getElem?_eq_getElem (by rw [HL.out]; exact hlt)⟩
        have HR2 := Lib.hid (HR.out.step S.out.bel)
        obtain ⟨pb, poff, rfl, hpb, hpr⟩ := HR2.out.cells (by omega)
        have HPI := Lib.hid (hpr k o ho)
        have HK := Lib.hid ho
        clear hpr hpb ho
        have HSZ : Hid ((strOf o.text).size = o.text.length) := Lib.hid (str_size o.text)
        by_cases hq : (512 : Int) < ((strOf o.text).size : Int)
        · go_wp2_with (first
            | (with_reducible refine wpList_load_mid rfl 33 (.tmp 15) rfl pb (poff + k * 16) rfl (opL o) _ HPI.out Tryz.underlying33 rfl (by kernel_rfl) ?_)
            | ((with_reducible refine wpList_store_newrow (vs := opL o) opT ?_ (opL_one _) rfl (.tmp 6) (.tmp 16) rfl rfl ?_ ?_ ?_); (exact rfl); (exact rfl); (exact rfl); intro W4 hP hB2 hz2; have S2 := Lib.hid (S.out.made hP hB2 hz2); clear hP hB2 hz2; have c4 := (S2.out.get 0 _ rfl).cell 4 _ rfl))
          go_ret
          exact ⟨true, rfl, (fun q => by cases q), S2.out.bel⟩
        · go_wp2_with (first
            | (with_reducible refine wpList_load_mid rfl 33 (.tmp 15) rfl pb (poff + k * 16) rfl (opL o) _ HPI.out Tryz.underlying33 rfl (by kernel_rfl) ?_)
            | ((with_reducible refine wpList_store_newrow (vs := opL o) opT ?_ (opL_one _) rfl (.tmp 6) (.tmp 16) rfl rfl ?_ ?_ ?_); (exact rfl); (exact rfl); (exact rfl); intro W4 hP hB2 hz2; have S2 := Lib.hid (S.out.made hP hB2 hz2); clear hP hB2 hz2; have c4 := (S2.out.get 0 _ rfl).cell 4 _ rfl))
          go_roundw
          case rel => exact ⟨k + 1, by omega, by go_num, S2.out.cut 0, Lib.hid (fun j o' hj ho' => by
            by_cases e : j = k
            · subst e
              have := HK.out
              rw [ho'] at this
              injection this with this
              subst this
              have := HSZ.out
              omega
            · exact HG.out j o' (by omega) ho')⟩
          case measure => simp [intOf]; omega
      · obtain rfl : k = n := by omega
        go_wp2_with fail
        go_ret
        refine ⟨false, rfl, fun _ => ⟨by have := HL.out; omega, fun o ho => ?_⟩, S.out.bel⟩
        obtain ⟨j, hj, he⟩ := List.getElem_of_mem ho
        exact HG.out j o (by have := HL.out; omega) (by rw [List.getElem?_eq_getElem hj, he])
end Go.Proofs.YtncmihikpcdgoaaGreat
