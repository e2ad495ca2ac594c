/-
  Where a key stands: find's closure, slices.IndexFunc over entries, find.
-/
import Derived.Test.YtkomehplcacbcaaZmem
namespace Go.Proofs.Ytkomehplcacbcaa
open Go.RowKit Go.Maps

theorem pred_any (key : Int) (B : Nat) (x : Z.En) (w : World) (hB : B < w.heap.size) (hcell : w.cell? ⟨B, 0, none⟩ = some (.int .i64 key)) :
    Calls Try.prog 31 #[.agg #[.int .i64 x.key, .int .i64 x.a, .int .i64 x.b, .int .i64 x.c, .int .i64 x.d], .pointer (some ⟨B, 0, none⟩)] w fun e w' => e = .returned (.bool (decide (x.key = key))) ∧ Below w.heap.size w w' := by
  have hne : B ≠ w.heap.size := by omega
  obtain ⟨k, a, b, c, d⟩ := x
  go_enter Try.func31, Try.ntmps31
  go_wp2
  all_goals
    go_ret
    refine ⟨ret_bool ?_, (Below.refl _ _).alloc (Nat.le_refl _) _⟩
    first | rfl | (simp_all; done) | (rw [Bool.eq_iff_iff]; simp)
structure IxS (w0 : World) (A : Option Addr) (n : Nat) (xs : List Z.En) (B : Nat) (key : Int) (W : World) : Prop where
  ens : EnsAt W A n xs
  lt : B < W.heap.size
  cell : W.cell? ⟨B, 0, none⟩ = some (.int .i64 key)
  bel : Below w0.heap.size w0 W
theorem IxS.call {w0 : World} {A : Option Addr} {n : Nat} {xs : List Z.En} {B : Nat} {key : Int} {W W' : World} (k : IxS w0 A n xs B key W) (hb : Below W.heap.size W W') : IxS w0 A n xs B key W' :=
  ⟨k.ens.step hb, Nat.lt_of_lt_of_le k.lt hb.size, (hb.cell (p := ⟨B, 0, none⟩) k.lt).trans k.cell, k.bel.trans (hb.mono k.bel.size)⟩
set_option maxHeartbeats 1000000 in
theorem index_any (A : Option Addr) (n c : Nat) (xs : List Z.En) (key : Int) (B : Nat) (w : World) (h : EnsAt w A n xs) (hn : n ≤ 1000) (hB : B < w.heap.size) (hcell : w.cell? ⟨B, 0, none⟩ = some (.int .i64 key)) :
    Calls Try.prog 30 #[.slice A n c, .func (.func 31) #[] #[.pointer (some ⟨B, 0, none⟩)]] w fun e w' => e = .returned (.int .i64 (Z.posI key xs)) ∧ Below w.heap.size w w' := by
  have S0 : Hid (IxS w A n xs B key w) := Lib.hid ⟨h, hB, hcell, Below.refl _ _⟩
  have HL := Lib.hid h.len
  clear h hB hcell
  go_enter Try.func30, Try.ntmps30
  go_wp2
  go_loopw [5, 8] (fun _ i wr => ∃ k : Nat, k ≤ n ∧ i = .int .i64 (k : Int) ∧ Hid (∀ j y, j < k → xs[j]? = some y → y.key ≠ key) ∧ Hid (IxS w A n xs B key wr)) (fun _ i _ => n - (intOf i).toNat)
  case atStart => exact ⟨0, Nat.zero_le _, rfl, Lib.hid (fun j y hj => absurd hj (Nat.not_lt_zero _)), S0⟩
  case round =>
    clear S0
    obtain ⟨k, hk, rfl, HA, S⟩ := hrel
    by_cases hlt : k < n
    · obtain ⟨b, off, x, hA, hb, hx, hc⟩ := S.out.ens.get k hlt
      subst hA
      have HX := Lib.hid hx
      have HC := Lib.hid hc
      have hP := pred_any key B x wr S.out.lt S.out.cell
      clear hx hc hb
      by_cases hkey : x.key = key
      · rw [decide_eq_true hkey] at hP
        have HP := Lib.hid hP
        have HR : Hid (Z.posI key xs = (k : Int)) := Lib.hid (by unfold Z.posI; rw [Z.pos_of HX.out hkey HA.out])
        clear hP hkey
        go_wp2_with (first
          | ((with_reducible refine wpList_load_at enT HC.out (enL_length _) rfl (.tmp 14) rfl ?_ ?_); (exact rfl))
          | (go_at_call 31; refine (HP.out).mono ?_; rintro e w2 ⟨rfl, hb2⟩; replace S := Lib.hid (S.out.call hb2); clear hb2))
        go_ret
        exact ⟨ret_int HR.out.symm, S.out.bel⟩
      · rw [decide_eq_false hkey] at hP
        have HP := Lib.hid hP
        have HM : Hid (∀ j y, j < k + 1 → xs[j]? = some y → y.key ≠ key) := Lib.hid (fun j y hj hy => by
          by_cases e : j = k
          · subst e
            rw [HX.out] at hy
            injection hy with hy
            subst hy
            exact hkey
          · exact HA.out j y (by omega) hy)
        clear hP hkey
        go_wp2_with (first
          | ((with_reducible refine wpList_load_at enT HC.out (enL_length _) rfl (.tmp 14) rfl ?_ ?_); (exact rfl))
          | (go_at_call 31; refine (HP.out).mono ?_; rintro e w2 ⟨rfl, hb2⟩; replace S := Lib.hid (S.out.call hb2); clear hb2))
        go_roundw
        case rel => exact ⟨k + 1, by omega, by go_num, HM, S⟩
        case measure => (simp [intOf] <;> omega)
    · obtain rfl : k = n := by omega
      have HR : Hid (Z.posI key xs = -1) := Lib.hid (by
        unfold Z.posI
        rw [Z.pos_nil (fun e he => by
          obtain ⟨i, hi, rfl⟩ := List.getElem_of_mem he
          exact HA.out i _ (by rw [← HL.out]; exact hi) (List.getElem?_eq_getElem hi))])
      clear hlt
      go_wp2
      go_ret
      exact ⟨ret_int HR.out.symm, S.out.bel⟩
/-- what find is told of: nobody, or a map -/
theorem find_nil (key : Int) (w : World) : Calls Try.prog 24 #[.pointer none, .int .i64 key] w fun e w' => e = .returned (.int .i64 (-1)) ∧ Below w.heap.size w w' := by
  go_enter Try.func24, Try.ntmps24
  go_wp2
  go_ret
  exact ⟨rfl, (Below.refl _ _).alloc (Nat.le_refl _) _⟩
theorem own_ens {w : World} {base : Nat} {t : TypeId} {A : Option Addr} {n c : Nat} {xs : List Z.En} (h : w.ownsRow base t 5 (.slice A n c) n (cellsE xs)) (hn : n = xs.length) : EnsAt w A n xs := ⟨hn.symm, own_many h⟩
set_option maxHeartbeats 1000000 in
theorem find_any (hd : Value) (base b : Nat) (sv : Value) (room : Nat) (l : List Z.En) (key : Int) (w : World) (h : MpAt 62 hd w base b sv room l) (hn : l.length ≤ 1000) :
    Calls Try.prog 24 #[.pointer (some ⟨b, 0, none⟩), .int .i64 key] w fun e w' => e = .returned (.int .i64 (Z.posI key l)) ∧ Below w.heap.size w w' := by
  obtain ⟨A, c, rfl⟩ := owns_slice h.own
  have hb := h.row.lt
  have hw := (Below.refl w.heap.size w).alloc (Nat.le_refl _) (.cells #[.int .i64 key] 3)
  have hc := (h.step hw).row.cell 2 _ rfl
  have HI := Lib.hid (index_any A l.length c l key w.heap.size (w.alloc (.cells #[.int .i64 key] 3)) (own_ens (h.step hw).own rfl) hn (by simp) (by simp))
  have HW := Lib.hid hw
  clear hw h
  go_enter Try.func24, Try.ntmps24
  go_wp2_with (go_at_call 30; refine (HI.out).mono ?_; rintro e w2 ⟨rfl, hb2⟩; have HB := Lib.hid (HW.out.trans (hb2.mono HW.out.size)); clear hb2)
  go_ret
  exact ⟨rfl, HB.out⟩
end Go.Proofs.Ytkomehplcacbcaa
