/-
  The contracts of slices.Clone and bits.Set.
-/
import Derived.Test.YtjjejdjhlnlhiaaBleaf
import Derived.BigRegion
import Derived.Lib.SliceRun
namespace Go.Proofs.Ytjjejdjhlnlhiaa
open Go.RowKit

theorem own_empty (w : World) : OwnB (w.alloc (.cells #[] 43)) w.heap.size (.slice (some ⟨w.heap.size, 0, none⟩) 0 0) 0 [] := World.ownsRow_made w #[] 0 (Nat.le_refl _) (Nat.zero_le _) rfl
theorem byteVals_append (p q : List UInt8) : byteVals (p ++ q) = byteVals p ++ byteVals q := by simp [byteVals]
theorem byteVals_cell {w : World} {b off n : Nat} {bs : List UInt8} (hl : bs.length = 64 * n) (hc : ∀ j, j < 64 * n → w.cell? ⟨b, off + j, none⟩ = some (.int .u8 ((bs.getD j 0).toNat : Int))) :
    ∀ j u, (byteVals bs)[j]? = some u → w.cell? ((⟨b, off, none⟩ : Addr).add j) = some u := by
  intro j u hu
  have hj : j < bs.length := by
    have := (List.getElem?_eq_some_iff.1 hu).1
    rwa [byteVals_length] at this
  rw [byteVals_at bs j hj] at hu
  have := hc j (by omega)
  rw [List.getD_eq_getElem?_getD, List.getElem?_eq_getElem hj, Option.getD_some] at this
  rw [Addr.add_mid, this, hu]
/-- what 'append([]api.Page{}, l...)' makes -/
theorem wpList_copy {ops : Array Oper} {rest : List Oper} {o : Oper} {a : Act} {Q : Exit → Act → World → Prop} {w : World} {A : Option Addr} {n c : Nat} {bs : List UInt8} (hr : Row w A n bs) (hn : n ≤ 1000) (hA : A ≠ none)
    (hgd : o.guard = none) (s x : Operand) (ho : o.op = .call { callee := .builtin .append, args := #[s, x], argTypes := #[22, 22] }) (hs : a.eval s = .slice (some ⟨w.heap.size, 0, none⟩) 0 0) (hx : a.eval x = .slice A n c)
    (h : ∀ v w', OwnB w' w.heap.size v n bs → Below w.heap.size w w' → wpList Try.prog ops Q rest (a.put o.dst v) w') :
    wpList Try.prog ops Q (o :: rest) a (w.alloc (.cells #[] 43)) := by
  obtain ⟨i, z, hi, hz, h64, hby, hzs⟩ := page_type
  obtain ⟨ad, rfl⟩ := Option.ne_none_iff_exists'.1 hA
  refine wpList_append_own_at _ hgd s x 22 ho w.heap.size 43 i z 64 64 Try.underlying22 hi hz h64 hby hzs (by omega) _ 0 [] hs (own_empty w) ad n c (byteVals bs) hx (by rw [byteVals_length, hr.len]; omega) ?_ (byteVals_one bs) (by unfold maxLen; omega) (by omega) (by simp) ?_
  · intro j u hu
    have hj : j < bs.length := by
      have := (List.getElem?_eq_some_iff.1 hu).1
      rwa [byteVals_length] at this
    have hl := hr.len
    obtain ⟨b, off, e, hlt, hc⟩ := hr.cells (by omega)
    injection e with e
    subst e
    refine Eq.trans (World.cell?_of_block (w := w) (Below.heap_alloc w _ _ ?_)) (byteVals_cell hl hc j u hu)
    rw [Addr.add_mid]; exact hlt
  · intro v w' h1 h2 _ _
    rw [Nat.zero_add, List.nil_append] at h1
    refine h v w' h1 (((Below.refl _ w).alloc (Nat.le_refl _) _).grown h2 (by simp) ?_)
    intro k hk
    simp [Value.ownBlock] at hk
    omega
/-- the same where there is none -/
theorem wpList_copy_none {ops : Array Oper} {rest : List Oper} {o : Oper} {a : Act} {Q : Exit → Act → World → Prop} {w : World}
    (hgd : o.guard = none) (s x : Operand) (ho : o.op = .call { callee := .builtin .append, args := #[s, x], argTypes := #[22, 22] }) (hs : a.eval s = .slice (some ⟨w.heap.size, 0, none⟩) 0 0) (hx : a.eval x = .slice none 0 0)
    (h : ∀ v w', OwnB w' w.heap.size v 0 [] → Below w.heap.size w w' → wpList Try.prog ops Q rest (a.put o.dst v) w') :
    wpList Try.prog ops Q (o :: rest) a (w.alloc (.cells #[] 43)) := by
  obtain ⟨i, z, hi, hz, h64, hby, hzs⟩ := page_type
  exact wpList_append_own_none hgd s x 22 ho w.heap.size 43 i 64 Try.underlying22 hi _ 0 [] hs (own_empty w) hx (h _ _ (own_empty w) ((Below.refl _ w).alloc (Nat.le_refl _) _))

set_option maxRecDepth 100000 in
set_option maxHeartbeats 400000 in
theorem clone_any (A : Option Addr) (n c : Nat) (bs : List UInt8) (w : World) (h : Row w A n bs) (hn : n ≤ 1000) :
    Calls Try.prog 18 #[.slice A n c] w fun e w' => ∃ v, e = .returned v ∧ OwnB w' w.heap.size v n bs ∧ Below w.heap.size w w' := by
  cases A with
  | none =>
    have h0 := h.nul rfl
    subst h0
    have hb : bs = [] := List.eq_nil_of_length_eq_zero (by rw [h.len])
    subst hb
    clear h
    have q22 := fun w : World => Lib.run_eql_slice_nil (P := Try.prog) w 22 43 none 0 c 0 0 Try.underlying22
    go_enter Try.func18, Try.ntmps18
    go_wp2
    go_ret
    exact ⟨_, rfl, World.ownsRow_nil _ _ _ _, Below.refl _ _⟩
  | some ad =>
    have HR := Lib.hid h; clear h
    have q22 := fun w : World => Lib.run_eql_slice_nil (P := Try.prog) w 22 43 (some ad) n c 0 0 Try.underlying22
    go_enter Try.func18, Try.ntmps18
    go_wp2_with (at_builtin; go_must (refine wpList_copy (c := c) HR.out hn (Option.some_ne_none ad) rfl (.tmp 5) (.tmp 6) rfl ?_ ?_ ?_); (exact rfl); (exact rfl); intro v w' h1 h2)
    go_ret
    exact ⟨_, rfl, h1, h2⟩

/-- a byte of one's own is written -/
theorem OwnB.put {W : World} {base g cap n : Nat} {bs : List UInt8} (h : OwnB W base (.slice (some ⟨g, 0, none⟩) n cap) n bs) (j : Nat) (c : UInt8) :
    OwnB (W.setCell ⟨g, j, none⟩ (.int .u8 (c.toNat : Int))) base (.slice (some ⟨g, 0, none⟩) n cap) n (bs.set j c) ∧ W.grownBy (W.setCell ⟨g, j, none⟩ (.int .u8 (c.toNat : Int))) (some g) := by
  have := World.ownsRow.stored h j (.int .u8 (c.toNat : Int))
  rw [byteVals_set] at this
  exact this
theorem own_byte {W : World} {base g cap n : Nat} {bs : List UInt8} (h : OwnB W base (.slice (some ⟨g, 0, none⟩) n cap) n bs) (i : Nat) (hi : i < n * 512) :
    W.cell? ⟨g, i / 512 * 64 + i % 512 / 8, none⟩ = some (.int .u8 ((bs.getD (i / 8) 0).toNat : Int)) := by
  have hl := h.len
  have e : i / 512 * 64 + i % 512 / 8 = i / 8 := by omega
  have hj : i / 8 < bs.length := by omega
  have := World.ownsRow.cellAt h (i / 8) (by omega)
  rw [e, this, byteVals_at bs _ hj, List.getD_eq_getElem?_getD, List.getElem?_eq_getElem hj]; rfl
set_option maxRecDepth 100000 in
set_option maxHeartbeats 1000000 in
theorem set_no (i : Int) (on1 : Bool) (A : Option Addr) (n c : Nat) (bs : List UInt8) (w : World) (h : Row w A n bs) (hn : n ≤ 1000) (hi : ¬ (0 ≤ i ∧ i < (n : Int) * 512)) :
    Calls Try.prog 7 #[.int .i64 i, .bool on1, .slice A n c] w fun e w' => ∃ v, e = .returned v ∧ OwnB w' w.heap.size v n bs ∧ Below w.heap.size w w' := by
  have HH := Lib.hid hi; clear hi
  have HR := Lib.hid h; clear h
  go_enter Try.func7, Try.ntmps7
  go_wp2_with (first | (go_at_call 18; refine (clone_any _ _ _ _ _ HR.out hn).mono ?_; rintro e w' ⟨v, rfl, ho, hb⟩; obtain ⟨A', c', rfl, _⟩ := OwnB.form ho) | (go_at_call 19; refine (isThere_no _ _ _ _ _ hn HH.out).mono ?_; rintro e w' ⟨rfl, rfl⟩))
  go_ret
  exact ⟨_, rfl, ho, hb⟩
set_option maxRecDepth 100000 in
set_option maxHeartbeats 1000000 in
theorem set_yes (i : Nat) (on1 : Bool) (A : Option Addr) (n c : Nat) (bs : List UInt8) (w : World) (h : Row w A n bs) (hn : n ≤ 1000) (hi : i < n * 512) :
    Calls Try.prog 7 #[.int .i64 (i : Int), .bool on1, .slice A n c] w fun e w' => ∃ v, e = .returned v ∧ OwnB w' w.heap.size v n (Bt.setBit bs i on1) ∧ Below w.heap.size w w' := by
  have HR := Lib.hid h; clear h
  have hq1 : i / 512 < n := by omega
  have hq2 : i % 512 / 8 < 64 := by omega
  have hi' : i < 512000 := by omega
  obtain ⟨x, hxe0⟩ : ∃ x, bs.getD (i / 8) 0 = x := ⟨_, rfl⟩
  have hx := x.toNat_lt
  have hxe := Lib.hid hxe0; clear hxe0
  have hp := Bt.pw_lt (i % 8) (Nat.mod_lt _ (by omega))
  have HN : Hid (0 < n) := Lib.hid (by omega)
  cases on1 with
  | true =>
    have HV : Hid (bits .or .u8 (x.toNat : Int) (Bt.pw (i % 8) : Int) = ((Bt.byteSet x (i % 8) true).toNat : Int)) := Lib.hid (by rw [u8_or_nat _ _ hx hp, Bt.byteSet_on _ _ (Nat.mod_lt _ (by omega)), Bt.pw_def])
    go_enter Try.func7, Try.ntmps7
    go_wp2_with (first | (go_at_call 18; refine (clone_any _ _ _ _ _ HR.out hn).mono ?_; rintro e w' ⟨v, rfl, ho, hb⟩; obtain ⟨g, c', rfl, hg, _⟩ := World.ownsRow.form ho HN.out; have hcell := own_byte ho i hi; have hfr := World.ownsRow.frozenAt ho (i / 512 * 64 + i % 512 / 8); rw [hxe.out] at hcell; have HO := Lib.hid ho; clear ho) | (go_at_call 19; refine (isThere_yes _ _ _ _ _ hn hi).mono ?_; rintro e w' ⟨rfl, rfl⟩) | (go_at_call 20; refine (place_any _ _ hi').mono ?_; rintro e w' ⟨rfl, m, rfl⟩))
    go_region
    go_wp2
    go_ret
    have HQ := OwnB.put (HO.out.step (below_drewN _ _ (m + 1))) (i / 512 * 64 + i % 512 / 8) (Bt.byteSet x (i % 8) true)
    refine ⟨_, rfl, ?_, ?_⟩
    · rw [HV.out]
      have e : i / 512 * 64 + i % 512 / 8 = i / 8 := by omega
      unfold Bt.setBit
      rw [hxe.out]
      have := HQ.1
      rw [e] at this ⊢
      exact this
    · refine (hb.trans (below_drewN _ _ (m + 1))).setCell ?_ _
      exact hg
  | false =>
    have HV : Hid (bits .andNot .u8 (x.toNat : Int) (Bt.pw (i % 8) : Int) = ((Bt.byteSet x (i % 8) false).toNat : Int)) := Lib.hid (by rw [u8_andNot_nat _ _ hx hp, Bt.byteSet_off, Bt.pw_def])
    go_enter Try.func7, Try.ntmps7
    go_wp2_with (first | (go_at_call 18; refine (clone_any _ _ _ _ _ HR.out hn).mono ?_; rintro e w' ⟨v, rfl, ho, hb⟩; obtain ⟨g, c', rfl, hg, _⟩ := World.ownsRow.form ho HN.out; have hcell := own_byte ho i hi; have hfr := World.ownsRow.frozenAt ho (i / 512 * 64 + i % 512 / 8); rw [hxe.out] at hcell; have HO := Lib.hid ho; clear ho) | (go_at_call 19; refine (isThere_yes _ _ _ _ _ hn hi).mono ?_; rintro e w' ⟨rfl, rfl⟩) | (go_at_call 20; refine (place_any _ _ hi').mono ?_; rintro e w' ⟨rfl, m, rfl⟩))
    go_region
    go_wp2
    go_ret
    have HQ := OwnB.put (HO.out.step (below_drewN _ _ (m + 1))) (i / 512 * 64 + i % 512 / 8) (Bt.byteSet x (i % 8) false)
    refine ⟨_, rfl, ?_, ?_⟩
    · rw [HV.out]
      have e : i / 512 * 64 + i % 512 / 8 = i / 8 := by omega
      unfold Bt.setBit
      rw [hxe.out]
      have := HQ.1
      rw [e] at this ⊢
      exact this
    · refine (hb.trans (below_drewN _ _ (m + 1))).setCell ?_ _
      exact hg
theorem set_any (i : Int) (on1 : Bool) (A : Option Addr) (n c : Nat) (bs : List UInt8) (w : World) (h : Row w A n bs) (hn : n ≤ 1000) :
    Calls Try.prog 7 #[.int .i64 i, .bool on1, .slice A n c] w fun e w' => ∃ v, e = .returned v ∧ OwnB w' w.heap.size v n (Bt.setB bs i on1) ∧ Below w.heap.size w w' := by
  have hl := h.len
  by_cases hi : 0 ≤ i ∧ i < (n : Int) * 512
  · obtain ⟨k, rfl⟩ := Int.eq_ofNat_of_zero_le hi.1
    rw [Bt.setB_nat bs k on1 (by omega)]
    exact set_yes k on1 A n c bs w h hn (by omega)
  · rw [Bt.setB_no bs i on1 (by omega)]
    exact set_no i on1 A n c bs w h hn hi
end Go.Proofs.Ytjjejdjhlnlhiaa
