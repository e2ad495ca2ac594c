/-
  The contract of the document's own Set.
-/
import Derived.Test.YtjjejdjhlnlhiaaBref
import Derived.Laws.Bits64
namespace Go.Proofs.Ytjjejdjhlnlhiaa
open Go.RowKit

theorem i64_xor_small (a b : Nat) (ha : a < 256) (hb : b < 256) : bits .xor .i64 (a : Int) (b : Int) = ((a ^^^ b : Nat) : Int) := by
  have hx : a ^^^ b < 2 ^ 8 := Nat.xor_lt_two_pow (by omega) (by omega)
  show IntKind.i64.wrap ((BitVec.ofInt 64 (a : Int) ^^^ BitVec.ofInt 64 (b : Int)).toNat : Int) = _
  have e1 : ∀ z : Nat, z < 256 → (BitVec.ofInt 64 (z : Int)).toNat = z := fun z hz => by
    rw [BitVec.ofInt_natCast, BitVec.toNat_ofNat]; exact Nat.mod_eq_of_lt (by omega)
  rw [BitVec.toNat_xor, e1 a ha, e1 b hb]
  simp [IntKind.wrap, IntKind.bits, IntKind.signed]
  omega
set_option maxRecDepth 100000 in
set_option maxHeartbeats 1000000 in
theorem refset_turn (i : Nat) (on1 : Bool) (ad : Addr) (n c : Nat) (bs : List UInt8) (w : World) (h : Row w (some ad) n bs) (hn : n ≤ 1000) (hi : i < n * 512) (hb : Bt.bit bs i = !on1) :
    Calls Try.prog 11 #[.slice (some ad) n c, .int .i64 (i : Int), .bool on1] w fun e w' => ∃ v, e = .returned v ∧ OwnB w' w.heap.size v n (Bt.setBit bs i on1) ∧ Below w.heap.size w w' := by
  have HR := Lib.hid h; clear h
  have hq1 : i / 512 < n := by omega
  have hq2 : i % 512 / 8 < 64 := by omega
  have hi' : (i : Int) ≤ 9223372036854775807 := by omega
  have hbb : ((!on1) == on1) = false := by cases on1 <;> rfl
  obtain ⟨x, hxe0⟩ : ∃ x, bs.getD (i / 8) 0 = x := ⟨_, rfl⟩
  have hx := x.toNat_lt
  have hxe := Lib.hid hxe0; clear hxe0
  have HN : Hid (0 < n) := Lib.hid (by omega)
  have hp := Bt.pw_lt (i % 8) (Nat.mod_lt _ (by omega))
  have HT : Hid (x.toNat ^^^ Bt.pw (i % 8) = (Bt.byteSet x (i % 8) on1).toNat) := Lib.hid (by
    rw [Bt.pw_def, Bt.byteSet_turn _ _ _ (Nat.mod_lt _ (by omega))]
    intro q
    unfold Bt.bit at hb
    rw [hxe.out, q] at hb
    cases on1 <;> cases hb)
  have HX : Hid (bits .xor .i64 (x.toNat : Int) (Bt.pw (i % 8) : Int) % 256 = ((Bt.byteSet x (i % 8) on1).toNat : Int)) := Lib.hid (by
    rw [i64_xor_small _ _ (by omega) (by omega), HT.out]
    have := (Bt.byteSet x (i % 8) on1).toNat_lt
    omega)
  clear HT
  have HB := Lib.hid hb; clear hb
  go_enter Try.func11, Try.ntmps11
  go_wp2_with (first
    | (at_builtin; (with_reducible refine wpList_copy (c := c) HR.out hn (Option.some_ne_none ad) ?_ (.tmp 10) (.tmp 11) ?_ ?_ ?_ ?_); (exact rfl); (exact rfl); (exact rfl); (exact rfl); intro v w' ho hb; obtain ⟨g, c', rfl, hg, _⟩ := World.ownsRow.form ho HN.out; have hcell := own_byte ho i hi; have hfr := World.ownsRow.frozenAt ho (i / 512 * 64 + i % 512 / 8); rw [hxe.out] at hcell; have HO := Lib.hid ho; clear ho)
    | (go_at_call 9; refine (refget_any _ _ _ _ _ _ (HR.out.step hb) hn hi').mono ?_; rintro e w' ⟨rfl, rfl⟩; rw [Bt.getB_nat, HB.out]))
  go_loop [8, 9] (fun y k => ∃ j : Nat, j ≤ i % 8 ∧ k = .int .i64 (j : Int) ∧ y = .int .i64 ((Bt.pw j : Nat) : Int)) (fun _ k => i % 8 - (intOf k).toNat)
  case atStart => exact ⟨0, Nat.zero_le _, rfl, by rfl⟩
  case round =>
    obtain ⟨j, hj, rfl, rfl⟩ := hrel
    have hpj := Bt.pw_lt j (by omega)
    have HS : Hid (Bt.pw (j + 1) = Bt.pw j * 2) := Lib.hid (by rw [Bt.pw_def, Bt.pw_def, Nat.pow_succ])
    by_cases hlt : j < i % 8
    · go_wp2
      go_round
      case rel => exact ⟨j + 1, by omega, by go_num, by rw [HS.out]; rfl⟩
      case measure => simp [intOf]; omega
    · obtain rfl : j = i % 8 := by omega
      go_wp2
      go_region
      go_wp2
      go_ret
      have HQ := OwnB.put HO.out (i / 512 * 64 + i % 512 / 8) (Bt.byteSet x (i % 8) on1)
      refine ⟨_, rfl, ?_, ?_⟩
      · rw [HX.out]
        have e : i / 512 * 64 + i % 512 / 8 = i / 8 := by omega
        unfold Bt.setBit
        rw [hxe.out]
        have := HQ.1
        rw [e] at this ⊢
        exact this.drew
      · refine ((hb.setCell ?_ _).trans (below_drewN _ _ 1))
        exact hg
theorem refset_any (i : Int) (on1 : Bool) (A : Option Addr) (n c : Nat) (bs : List UInt8) (w : World) (h : Row w A n bs) (hA : A = none → c = 0) (hn : n ≤ 1000) (hm : i ≤ 9223372036854775807) :
    Calls Try.prog 11 #[.slice A n c, .int .i64 i, .bool on1] w fun e w' => ∃ v, e = .returned v ∧ OwnB w' w.heap.size v n (Bt.setB bs i on1) ∧ Below w.heap.size w w' := by
  have hl := h.len
  cases A with
  | none =>
    have h0 := h.nul rfl
    have hc := hA rfl
    subst h0 hc
    have hb : bs = [] := List.eq_nil_of_length_eq_zero hl
    subst hb
    rw [Bt.setB_no _ _ _ (by simp)]
    exact refset_nil i on1 w hm
  | some ad =>
    by_cases hi : 0 ≤ i ∧ i < (n : Int) * 512
    · obtain ⟨k, rfl⟩ := Int.eq_ofNat_of_zero_le hi.1
      rw [Bt.setB_nat bs k on1 (by omega)]
      by_cases hb : Bt.bit bs k = on1
      · rw [Bt.set_same bs k on1 (by omega) hb]
        exact refset_same k on1 ad n c bs w h hn (by omega) hb
      · exact refset_turn k on1 ad n c bs w h hn (by omega) (by cases on1 <;> simp_all)
    · rw [Bt.setB_no bs i on1 (by omega)]
      exact refset_no i on1 ad n c bs w h hn hm hi
end Go.Proofs.Ytjjejdjhlnlhiaa
