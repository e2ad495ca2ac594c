/-
  The law's Plain: instructions as the document has them.
-/
import Derived.Test.YteobdjgodljjmaaYlists
namespace Go.Proofs.Yteobdjgodljjmaa.plainL
open Go.RowKit Go.Maps

def PlainGive (n : Nat) (xs : List Y.In) (w : World) (e : Ending) (w' : World) : Prop := ∃ A c, e = .returned (.slice A n c) ∧ InsAt w' A n xs ∧ Below w.heap.size w w'
theorem give {t : TypeId} {w w' : World} {A : Option Addr} {n c : Nat} {xs : List Y.In} (S : GrS w t (.slice A n c) xs w') (hn : n = xs.length) : PlainGive n xs w (.returned (.slice A n c)) w' := ⟨A, c, rfl, owns_ins (by have := S.own; rw [← hn] at this; exact this) hn, S.bel⟩
set_option maxRecDepth 100000 in
set_option maxHeartbeats 2000000 in
theorem plain_any (A : Option Addr) (n c : Nat) (xs : List Y.In) (w : World) (h : InsAt w A n xs) (hn : n ≤ 1000) :
    Calls Try.prog 8 #[.slice A n c] w (PlainGive n xs w) := by
  have H0 := Lib.hid h
  have HL := Lib.hid h.len
  have S0 := Lib.hid (grS_start w 43)
  obtain ⟨i0, hi0, hz0, hs0, hb0⟩ := info_parts info_rin
  have HI0 := Lib.hid hi0
  have HZ0 := Lib.hid hz0
  have HS0 := Lib.hid hs0
  have HB0 := Lib.hid hb0
  clear h hi0 hz0 hs0 hb0
  go_enter Try.func8, Try.ntmps8
  go_wp2
  go_loopw [3, 8] (fun l i wr => ∃ (k : Nat) (A' : Option Addr) (c' : Nat), k ≤ n ∧ i = .int .i64 (k : Int) ∧ l = .slice A' k c' ∧ Hid (GrS w 43 (.slice A' k c') (xs.take k) wr)) (fun _ i _ => n - (intOf i).toNat)
  case atStart => exact ⟨0, none, 0, Nat.zero_le _, rfl, rfl, S0⟩
  case round =>
    clear S0
    obtain ⟨k, A', c', hk, rfl, rfl, S⟩ := hrel
    rename World => wo
    by_cases hlt : k < n
    · obtain ⟨b, off, x, hA, hb, hx, hc⟩ := (H0.out.step (S.out.bel)).get k hlt
      subst hA
      have HC := Lib.hid hc
      have HT : Hid (xs.take (k + 1) = xs.take k ++ [x]) := Lib.hid (by obtain ⟨h1, h2⟩ := List.getElem?_eq_some_iff.1 hx; rw [List.take_succ_eq_append_getElem h1, h2])
      have HM : Hid (k = (xs.take k).length) := Lib.hid (by rw [List.length_take, HL.out]; omega)
      have hk0 : (0 : Int) ≤ (k : Int) := by omega
      have hk1 : (k : Int) < (n : Int) := by omega
      clear hx hc hb
      generalize xs.take k = ys at S HT HM
      go_wp2_with (first
        | ((with_reducible refine wpList_load_at inT HC.out (inL_length _) rfl (.tmp 10) rfl ?_ ?_); (exact rfl))
        | ((with_reducible refine wpList_store_newrow inT (vs := inL x) (inL_length _) (inL_one _) rfl (.tmp 5) (.tmp 11) rfl rfl ?_ ?_ ?_); (exact rfl); (exact rfl); intro W4 hP hb hz; have R := Lib.hid hP; replace S := Lib.hid (S.out.call hb); clear hP hb hz; generalize wo.heap.size = G at R ⊢)
        | (with_reducible refine wpList_load_row inT R.out (inL_length _) rfl (.tmp 5) rfl rfl ?_)
        | ((with_reducible refine wpList_oneIn (t := 43) (st := 24) (x := x) (Or.inr ⟨rfl, rfl⟩) rfl (.tmp 13) rfl ?_ ?_); (exact rfl); have HNW := Lib.hid (cell_new W4 (inL x) 43); have HBel : Hid (Below W4.heap.size W4 (W4.alloc (.cells (inL x).toArray 43))) := Lib.hid ((Below.refl _ _).alloc (Nat.le_refl _) _); replace S := Lib.hid (S.out.call HBel.out); have HSZ : Hid (w.heap.size ≤ (W4.alloc (.cells (inL x).toArray 43)).heap.size) := Lib.hid S.out.bel.size; have HOwn := Lib.hid S.out.own; rw [← HM.out] at HOwn; clear HBel; generalize W4.heap.size = E at HNW ⊢; generalize W4.alloc (.cells (inL x).toArray 43) = W5 at HNW S HSZ HOwn ⊢)
        | (at_builtin; go_must (refine wpList_append_own_at _ rfl (.tmp 12) (.tmp 14) 24 rfl w.heap.size 43 i0 _ 5 40 Try.underlying24 HI0.out HZ0.out HS0.out HB0.out rfl (by omega) _ k _ rfl HOwn.out ⟨E, 0, none⟩ 1 1 (inL x) rfl rfl HNW.out (inL_one _) (by unfold maxLen; omega) (by omega) HSZ.out ?_); intro v' w5 hown' hgrow hnil hloc; obtain ⟨A', c', rfl⟩ := owns_slice hown'))
      have S3 := Lib.hid (S.out.grow hgrow (x := x) (by rw [← HM.out]; exact hown'))
      rw [← HT.out] at S3
      clear hown' hgrow hnil hloc S
      go_roundw
      case rel => exact ⟨k + 1, A', c', by omega, by go_num, rfl, S3⟩
      case measure => (simp [intOf] <;> omega)
    · obtain rfl : k = n := by omega
      have e : xs.take k = xs := List.take_of_length_le (by rw [HL.out]; exact Nat.le_refl _)
      rw [e] at S
      have HF := Lib.hid (give S.out HL.out.symm)
      clear e S hlt
      go_wp2
      go_ret
      exact HF.out
end Go.Proofs.Yteobdjgodljjmaa.plainL
