/-
  The contracts of the document's own All and First, and of bits.All.
-/
import Derived.Test.YtjjejdjhlnlhiaaBref
import Derived.Test.YtjjejdjhlnlhiaaBsame
import Derived.Test.YtjjejdjhlnlhiaaBthose
namespace Go.Proofs.Ytjjejdjhlnlhiaa
open Go.RowKit

/-- numbers of one's own -/
def numVals (zs : List Nat) : List Value := zs.map fun (z : Nat) => Value.int .i64 (z : Int)
theorem numVals_length (zs : List Nat) : (numVals zs).length = zs.length := by simp [numVals]
theorem numVals_snoc (zs : List Nat) (x : Nat) : numVals (zs ++ [x]) = numVals zs ++ [.int .i64 (x : Int)] := by simp [numVals]
def OwnN (W : World) (base : Nat) (v : Value) (zs : List Nat) : Prop := W.ownsRow base 3 1 v zs.length (numVals zs)
theorem infoI : (Try.prog.info? 3).map (fun i => (i.zero, i.size, i.bytes)) = some (some (.int .i64 0), 1, 8) := by kernel_rfl
theorem OwnN.step {W W' : World} {base : Nat} {v : Value} {zs : List Nat} (h : OwnN W base v zs) (hb : Below W.heap.size W W') : OwnN W' base v zs := by
  refine World.ownsRow.kept h (grown_below hb) ?_
  cases hv : v.ownBlock with
  | none => exact Or.inl rfl
  | some g => exact Or.inr (fun e => by cases e)
theorem OwnN.form {W : World} {base : Nat} {v : Value} {zs : List Nat} (h : OwnN W base v zs) : ∃ A cap, v = .slice A zs.length cap ∧ NumRow W A zs.length zs ∧ zs.length ≤ cap ∧ cap ≤ maxLen ∧ (A = none → zs = [] ∧ cap = 0) ∧ (∀ g off, A = some ⟨g, off, none⟩ → base ≤ g ∧ g < W.heap.size) := by
  rcases h.2 with ⟨e, h0⟩ | ⟨g, cap, cur, e, hb, hg, hc, hcm, hcs, ht⟩
  · refine ⟨none, 0, by rw [e, h0], ⟨rfl, fun hn => by omega⟩, by omega, Nat.zero_le _, fun _ => ⟨List.eq_nil_of_length_eq_zero h0, rfl⟩, fun g off q => by cases q⟩
  · have hlt : g < W.heap.size := by
      rcases Nat.lt_or_ge g W.heap.size with hlt | hge
      · exact hlt
      · rw [Array.getElem?_eq_none hge] at hg; cases hg
    subst e
    refine ⟨some ⟨g, 0, none⟩, cap, rfl, ⟨rfl, fun hn => ⟨g, 0, rfl, hlt, fun j hj => ?_⟩⟩, hc, hcm, fun q => (by cases q), fun g' off q => ?_⟩
    · have := World.ownsRow.cellAt h j (by omega)
      rw [Nat.zero_add, this]
      unfold numVals
      rw [List.getElem?_map, List.getElem?_eq_getElem hj, List.getD_eq_getElem?_getD, List.getElem?_eq_getElem hj]; rfl
    · injection q with q; injection q with q1 q2
      exact ⟨by omega, by omega⟩
theorem cell_new1 (w : World) (v : Value) (t : TypeId) : ∀ j u, [v][j]? = some u → (w.alloc (.cells #[v] t)).cell? ((⟨w.heap.size, 0, none⟩ : Addr).add j) = some u := by
  intro j u hu
  have hj : j = 0 := by
    have := (List.getElem?_eq_some_iff.1 hu).1
    simpa using this
  subst hj
  rw [Addr.add_mid, World.cell?_alloc_mark]
  simpa using hu
set_option maxRecDepth 100000 in
set_option maxHeartbeats 2000000 in
theorem refall_row (A : Option Addr) (n c : Nat) (bs : List UInt8) (a b : Int) (w : World) (h : Row w A n bs) (hn : n ≤ 1000) :
    Calls Try.prog 12 #[.slice A n c, .int .i64 a, .int .i64 b] w fun e w' => ∃ v, e = .returned v ∧ OwnN w' w.heap.size v (Bt.all bs true a b) ∧ Below w.heap.size w w' := by
  have HR := Lib.hid h; clear h
  have HL : Hid (8 * bs.length = 512 * n) := Lib.hid (by rw [HR.out.len]; omega)
  obtain ⟨i0, hi, hz0, hz1, hz2⟩ := info_parts infoI
  go_enter Try.func12, Try.ntmps12
  go_wp2
  go_loopw [7, 8] (fun v i wr => ∃ k : Nat, k ≤ 512 * n ∧ i = .int .i64 (k : Int) ∧ OwnN wr w.heap.size v (Bt.upto bs true a b k) ∧ Below w.heap.size w wr) (fun _ i _ => 512 * n - (intOf i).toNat)
  case atStart => exact ⟨0, Nat.zero_le _, rfl, (show World.ownsRow _ _ _ 1 _ 0 [] from World.ownsRow_made w #[] 0 (Nat.le_refl _) (Nat.zero_le _) rfl), (Below.refl _ _).alloc (Nat.le_refl _) _⟩
  case round =>
    obtain ⟨k, hk, rfl, hO, hB⟩ := hrel
    by_cases hlt : k < 512 * n
    · by_cases c1 : a ≤ (k : Int)
      · by_cases c2 : (k : Int) < b
        · have HG : Hid (Bt.among bs true a b k = Bt.bit bs k) := Lib.hid (by rw [Bt.among_in _ _ _ _ _ c1 c2]; simp)
          have hki : (k : Int) ≤ 9223372036854775807 := by omega
          cases hbit : Bt.bit bs k with
          | false =>
            go_wp2_with (go_at_call 9; refine (refget_any _ _ _ _ _ _ (HR.out.step hB) hn hki).mono ?_; rintro e w' ⟨rfl, rfl⟩; rw [Bt.getB_nat, hbit])
            go_roundw
            case rel => exact ⟨k + 1, by omega, by go_num, by rw [Bt.upto_no _ _ _ _ _ (HG.out.trans hbit)]; exact hO, hB⟩
            case measure => simp [intOf]; omega
          | true =>
            have HU := Lib.hid (Bt.upto_yes _ _ _ _ _ (HG.out.trans hbit))
            have hlen := Bt.upto_length bs true a b k
            have HO := Lib.hid hO; clear hO
            go_wp2_with (first
              | (go_at_call 9; refine (refget_any _ _ _ _ _ _ (HR.out.step hB) hn hki).mono ?_; rintro e w' ⟨rfl, rfl⟩; rw [Bt.getB_nat, hbit])
              | (at_builtin; go_must (refine wpList_append_own_at _ rfl (.tmp 30) (.tmp 32) 32 rfl w.heap.size 3 i0 _ 1 8 Try.underlying32 hi hz0 hz1 hz2 rfl (by omega) _ _ _ rfl (World.ownsRow.alloc HO.out _) ⟨wr.heap.size, 0, none⟩ 1 1 [.int .i64 (k : Int)] rfl rfl (cell_new1 _ _ _) (by simp [Value.oneCell']) (by unfold maxLen; omega) (by omega) (by have := hB.size; simp; omega) ?_); intro v' w5 hown' hgrow hnil hloc))
            go_roundw
            case rel =>
              refine ⟨k + 1, by omega, by go_num, ?_, ?_⟩
              · rw [HU.out]
                unfold OwnN
                rw [numVals_snoc, List.length_append]
                exact hown'
              · refine (hB.alloc hB.size _).grown hgrow (by have := hB.size; simp; omega) ?_
                intro q hq
                exact (World.ownsRow.lt HO.out q hq).1
            case measure => simp [intOf]; omega
        · go_wp2
          go_roundw
          case rel => exact ⟨k + 1, by omega, by go_num, by rw [Bt.upto_no _ _ _ _ _ (Bt.among_high _ _ _ _ _ (by omega))]; exact hO, hB⟩
          case measure => simp [intOf]; omega
      · go_wp2
        go_roundw
        case rel => exact ⟨k + 1, by omega, by go_num, by rw [Bt.upto_no _ _ _ _ _ (Bt.among_low _ _ _ _ _ (by omega))]; exact hO, hB⟩
        case measure => simp [intOf]; omega
    · have HE : Hid (Bt.upto bs true a b k = Bt.all bs true a b) := Lib.hid (by unfold Bt.all; rw [HL.out, show k = 512 * n by omega])
      go_wp2
      go_ret
      exact ⟨_, rfl, by rw [← HE.out]; exact hO, hB⟩
set_option maxRecDepth 100000 in
set_option maxHeartbeats 2000000 in
theorem reffirst_any (A : Option Addr) (n c : Nat) (bs : List UInt8) (a b : Int) (w : World) (h : Row w A n bs) (hn : n ≤ 1000) :
    Calls Try.prog 17 #[.slice A n c, .int .i64 a, .int .i64 b] w fun e w' => e = .returned (.int .i64 (Bt.first bs a b)) ∧ w = w' := by
  have HR := Lib.hid h; clear h
  have HL : Hid (8 * bs.length = 512 * n) := Lib.hid (by rw [HR.out.len]; omega)
  go_enter Try.func17, Try.ntmps17
  go_wp2
  go_loop [7] (fun i => ∃ k : Nat, k ≤ 512 * n ∧ i = .int .i64 (k : Int) ∧ Bt.upto bs false a b k = []) (fun i => 512 * n - (intOf i).toNat)
  case atStart => exact ⟨0, Nat.zero_le _, rfl, rfl⟩
  case round =>
    obtain ⟨k, hk, rfl, hU⟩ := hrel
    have HU := Lib.hid hU; clear hU
    by_cases hlt : k < 512 * n
    · by_cases c1 : a ≤ (k : Int)
      · by_cases c2 : (k : Int) < b
        · have HG : Hid (Bt.among bs false a b k = !Bt.bit bs k) := Lib.hid (by rw [Bt.among_in _ _ _ _ _ c1 c2]; cases Bt.bit bs k <;> rfl)
          have hki : (k : Int) ≤ 9223372036854775807 := by omega
          cases hbit : Bt.bit bs k with
          | true =>
            go_wp2_with (go_at_call 9; refine (refget_any _ _ _ _ _ _ HR.out hn hki).mono ?_; rintro e w' ⟨rfl, rfl⟩; rw [Bt.getB_nat, hbit])
            go_round
            case rel => exact ⟨k + 1, by omega, by go_num, by rw [Bt.upto_no _ _ _ _ _ (by rw [HG.out, hbit]; rfl)]; exact HU.out⟩
            case measure => simp [intOf]; omega
          | false =>
            have HF : Hid (Bt.first bs a b = (k : Int)) := Lib.hid (Bt.first_some _ _ _ _ (by
              have e1 := Bt.upto_yes bs false a b k (by rw [HG.out, hbit]; rfl)
              rw [HU.out] at e1
              have := Bt.upto_pre bs false a b (k + 1) (by rw [HL.out]; omega)
              rw [e1] at this
              exact this))
            go_wp2_with (go_at_call 9; refine (refget_any _ _ _ _ _ _ HR.out hn hki).mono ?_; rintro e w' ⟨rfl, rfl⟩; rw [Bt.getB_nat, hbit])
            go_ret
            exact ⟨ret_int HF.out.symm, rfl⟩
        · go_wp2
          go_round
          case rel => exact ⟨k + 1, by omega, by go_num, by rw [Bt.upto_no _ _ _ _ _ (Bt.among_high _ _ _ _ _ (by omega))]; exact HU.out⟩
          case measure => simp [intOf]; omega
      · go_wp2
        go_round
        case rel => exact ⟨k + 1, by omega, by go_num, by rw [Bt.upto_no _ _ _ _ _ (Bt.among_low _ _ _ _ _ (by omega))]; exact HU.out⟩
        case measure => simp [intOf]; omega
    · have HF : Hid (Bt.first bs a b = -1) := Lib.hid (Bt.first_none _ _ _ (by unfold Bt.all; rw [HL.out, show 512 * n = k by omega]; exact HU.out))
      go_wp2
      go_ret
      exact ⟨ret_int HF.out.symm, rfl⟩
set_option maxRecDepth 100000 in
set_option maxHeartbeats 2000000 in
/-- bits.All: an iterator over pages of its own -/
theorem all_any (a b : Int) (A : Option Addr) (n c : Nat) (bs : List UInt8) (w : World) (h : Row w A n bs) (hn : n ≤ 1000) :
    Calls Try.prog 13 #[.int .i64 a, .int .i64 b, .slice A n c] w fun e w' => ∃ s A' c', e = .returned (thoseV s) ∧ Those w' s true (max a 0) (min b ((n : Int) * 512)) (.slice A' n c') ∧ Row w' A' n bs ∧ Below w.heap.size w w' ∧ w.heap.size ≤ s ∧ s + 4 ≤ w'.heap.size ∧ (0 < n → ∀ b off, A' = some ⟨b, off, none⟩ → w.heap.size ≤ b) := by
  have HR := Lib.hid h; clear h
  go_enter Try.func13, Try.ntmps13
  go_wp2_with (first
    | (go_at_call 18; refine (clone_any _ _ _ _ _ HR.out hn).mono ?_; rintro e w1 ⟨v, rfl, ho, hb1⟩; obtain ⟨A1, c1, rfl, hr1, hA1, _⟩ := OwnB.form ho; have R1 := Lib.hid hr1; have A1h := Lib.hid hA1; clear ho hr1 hA1)
    | (go_at_call 21; refine (those_any _ _ _ _ _ _ _ hn).mono ?_; rintro e w2 ⟨rfl, hT, hb2, hsz⟩))
  go_ret
  exact ⟨_, _, _, rfl, hT, R1.out.step hb2, hb1.trans (hb2.mono hb1.size), hb1.size, by omega, fun _ b off e => (A1h.out b off e).1⟩
end Go.Proofs.Ytjjejdjhlnlhiaa
