/-
  Proved: BitsTakes returns true for every steps: taking the first free bits, one after the other, and letting some go again, keeps count of them.
  Conditions: none beside the statement's own.
-/
import Derived.Test.YtjjejdjhlnlhiaaBawake
import Derived.Test.YtjjejdjhlnlhiaaBmaps
namespace Go.Proofs.Ytjjejdjhlnlhiaa
open Go.ChangeShapes Go.WideShapes Go.ChangeAt Go.RowKit
open Dk (zeros zeros_length)

/-! ### bytes -/
structure ByteRow (w : World) (A : Option Addr) (n c : Nat) (bs : List UInt8) : Prop where
  len : bs.length = n
  room : n ≤ c
  small : n ≤ maxLen
  cells : 0 < n → ∃ b off, A = some ⟨b, off, none⟩ ∧ b < w.heap.size ∧ ∀ j, j < n → w.cell? ⟨b, off + j, none⟩ = some (.int .u8 ((bs.getD j 0).toNat : Int))
set_option maxRecDepth 100000 in
theorem ByteRow.below {w w' : World} {A : Option Addr} {n c : Nat} {bs : List UInt8} (h : ByteRow w A n c bs) (hb : Below w.heap.size w w') : ByteRow w' A n c bs where
  len := h.len
  room := h.room
  small := h.small
  cells := fun h0 => by
    obtain ⟨b, off, rfl, hlt, hc⟩ := h.cells h0
    exact ⟨b, off, rfl, Nat.lt_of_lt_of_le hlt hb.size, fun j hj => (hb.cell (p := ⟨b, off + j, none⟩) hlt).trans (hc j hj)⟩
set_option maxRecDepth 100000 in
theorem cellsB : Try.prog.cellsOf 41 = 1 := by kernel_rfl
set_option maxRecDepth 100000 in
theorem bytes_cells {H : Type} {enc : TypeId × Value → H} {W : World} {fuel : Nat} {cs : List Value} {x : DataW H × List MemPlace} (ht : DataW.trod enc Try.prog W 0 (fun _ => true) true fuel 41 cs = some x) :
    ∃ A n c bs, cs = [.slice A n c] ∧ ByteRow W A n c bs := by
  rcases Go.Deep.open_slice Try.underlying41 ht with ⟨hcs, _⟩ | ⟨a, len, cap, m, k, D, Pl, hcs, _, hl, hm, hmm, _, hi⟩
  · exact ⟨none, 0, 0, [], hcs, rfl, Nat.le_refl _, by unfold maxLen; omega, fun h => by omega⟩
  · simp only [if_true] at hmm
    have each : ∀ i, i < len → ∃ q : UInt8, W.cell? (a.add i) = some (.int .u8 (q.toNat : Int)) := by
      intro i hin
      obtain ⟨cs', hc, ht'⟩ := hi i (by omega)
      rw [cells8, Nat.mul_one] at hc
      obtain ⟨v, hv, _, hw⟩ := DataW.trod_int Try.underlying5 ht'
      have hb := bounds_u8 hw
      obtain ⟨_, _, hat⟩ := World.cells?_some hc
      have h0 := hat 0 (by omega)
      rw [hv] at h0
      refine ⟨UInt8.ofNat v.toNat, ?_⟩
      have e0 : (a.add i).add 0 = a.add i := by unfold Addr.add; cases a.spot <;> simp
      rw [e0] at h0
      rw [h0, UInt8.toNat_ofNat']
      show some (Value.int .u8 v) = _
      congr 2
      omega
    obtain ⟨bs, hbl, hbs⟩ := list_of _ len each
    refine ⟨some a, len, cap, bs, hcs, hbl, hl, by omega, fun h0 => ?_⟩
    have hget : ∀ i, i < len → W.cell? (a.add i) = some (.int .u8 ((bs.getD i 0).toNat : Int)) := fun i hin => by
      obtain ⟨q, hq, h1⟩ := hbs i hin
      rw [List.getD_eq_getElem?_getD, hq]; exact h1
    obtain ⟨b, off, spot⟩ := a
    have hcell0 := hget 0 h0
    have hspot : spot = none := by simpa [Addr.add] using World.cell?_spot hcell0
    subst hspot
    refine ⟨b, off, rfl, ?_, fun j hj => ?_⟩
    · rw [Addr.add_mid] at hcell0
      exact World.block_lt_of_cell? W _ hcell0
    · have := hget j hj
      rwa [Addr.add_mid] at this
set_option maxRecDepth 100000 in
theorem open_bytes {H : Type} {enc : TypeId × Value → H} {W : World} {base : Nat} {v : Value} {d : DataW H} {p : List MemPlace} (hv : Value.okWide Try.prog W .any base 41 v)
    (h : DataW.Trod enc Try.prog W 0 (fun _ => true) true 41 v d p) : ∃ A n c bs, v = .slice A n c ∧ ByteRow W A n c bs := by
  obtain ⟨A, n, c, rfl⟩ := okWide_slice Try.underlying41 hv
  obtain ⟨fuel, hf⟩ := h
  obtain ⟨A', n', c', bs, e, hb⟩ := bytes_cells hf
  simp [Value.cells] at e
  obtain ⟨rfl, rfl, rfl⟩ := e
  exact ⟨_, _, _, bs, rfl, hb⟩
end Go.Proofs.Ytjjejdjhlnlhiaa
namespace Go.Proofs.Ytjjejdjhlnlhiaa.bitsTakes
open Go.ChangeShapes Go.WideShapes Go.ChangeAt Go.RowKit
open Dk (zeros zeros_length)

set_option maxRecDepth 100000 in
set_option maxHeartbeats 1000000 in
theorem walk_many (A : Option Addr) (n c : Nat) (w : World) (hm : n ≤ maxLen) (hn : 60 < n) :
    Calls Try.prog 5 #[.slice A n c] w fun e w' => e = .returned (.bool true) ∧ Below w.heap.size w w' := by
  unfold maxLen at hm
  go_enter Try.func5, Try.ntmps5
  go_wp2_with fail
  refine (awake_any w).mono ?_
  rintro e w1 ⟨rfl, hb⟩
  go_wp2_with fail
  go_ret
  exact ⟨rfl, hb⟩
theorem zeros_bit (i : Nat) : Bt.bit zeros i = false := by
  unfold Bt.bit zeros
  rw [List.getD_eq_getElem?_getD, List.getElem?_replicate]
  split <;> exact Nat.zero_testBit _
theorem zeros_cnt : Bt.cnt zeros = 0 := by kernel_rfl
/-- what holds between two steps -/
structure Keep (w wr : World) (mb : Nat) (A : Option Addr) (bs : List UInt8) : Prop where
  row : Row wr A 1 bs
  set : SetAt wr mb bs
  low : Bt.Low bs
  bel : Below w.heap.size w wr
theorem Keep.len {w wr : World} {mb : Nat} {A : Option Addr} {bs : List UInt8} (h : Keep w wr mb A bs) : bs.length = 64 := h.row.len
theorem Keep.step {w wr wr' : World} {mb : Nat} {A : Option Addr} {bs : List UInt8} (h : Keep w wr mb A bs) (hb : Below wr.heap.size wr wr') : Keep w wr' mb A bs :=
  ⟨h.row.step hb, h.set.step hb, h.low, h.bel.trans (hb.mono h.bel.size)⟩
theorem turn_below {w wr wr' : World} {mb : Nat} (hb : Below w.heap.size w wr) (hm : w.heap.size ≤ mb) (ht : wr.mapTurned wr' mb) : Below w.heap.size w wr' :=
  hb.grown ht.grown hb.size (fun k e => by cases e; exact hm)

set_option maxRecDepth 100000 in
set_option maxHeartbeats 4000000 in
theorem walk_few (A : Option Addr) (n c : Nat) (xs : List UInt8) (w : World) (h : ByteRow w A n c xs) (hn : n ≤ 60) :
    Calls Try.prog 5 #[.slice A n c] w fun e w' => e = .returned (.bool true) ∧ Below w.heap.size w w' := by
  have HX := Lib.hid h; clear h
  go_enter Try.func5, Try.ntmps5
  go_wp2_with fail
  refine (awake_any w).mono ?_
  rintro e w1 ⟨rfl, hb1⟩
  have hmm := @run_makeMap Try.prog
  go_wp2_with fail
  rw [← zeroCells_def]
  have K0 : Hid (Keep w ((w1.alloc (.cells zeroCells 43)).alloc (.map #[] 0)) (w1.heap.size + 1) (some ⟨w1.heap.size, 0, none⟩) zeros) := Lib.hid (by
    refine ⟨(row_zeros w1 43).step ((Below.refl _ _).alloc (Nat.le_refl _) _), ?_, fun i _ => zeros_bit i, ?_⟩
    · have := setAt_made (w1.alloc (.cells zeroCells 43)) zeros zeros_bit zeros_cnt
      rw [World.size_alloc] at this
      exact this
    · exact (hb1.alloc hb1.size _).alloc (by have := hb1.size; simp; omega) _)
  have hmb : w.heap.size ≤ w1.heap.size + 1 := by have := hb1.size; omega
  generalize (w1.alloc (.cells zeroCells 43)).alloc (.map #[] 0) = w2 at K0 ⊢
  generalize w1.heap.size + 1 = mb at K0 hmb ⊢
  generalize (some ⟨w1.heap.size, 0, none⟩ : Option Addr) = A0 at K0 ⊢
  generalize zeroCells = Z
  clear hb1 hmm
  go_loopw [3, 20] (fun v i wr => ∃ (k : Nat) (A1 : Option Addr) (c1 : Nat) (bs : List UInt8), k ≤ n ∧ i = .int .i64 (k : Int) ∧ v = .slice A1 1 c1 ∧ Keep w wr mb A1 bs) (fun _ i _ => n - (intOf i).toNat)
  case atStart => exact ⟨0, A0, 1, zeros, Nat.zero_le _, rfl, rfl, K0.out⟩
  case round =>
    obtain ⟨k, A1, c1, bs, hk, rfl, rfl, hK⟩ := hrel
    have KK := Lib.hid hK; clear hK
    by_cases hlt : k < n
    · obtain ⟨b, off, e, hbl, hc⟩ := HX.out.cells (by omega)
      subst e
      have hx0 := (KK.out.bel.cell (p := ⟨b, off + k, none⟩) hbl).trans (hc k hlt)
      have hx1 := (xs.getD k 0).toNat_lt
      generalize (xs.getD k 0).toNat = x at hx0 hx1
      clear hc
      have HL := Lib.hid KK.out.len
      by_cases hx : 0 < x % 3
      · by_cases hfull : ∀ i, i < 40 → Bt.bit bs i = true
        · have HF : Hid (Bt.first bs 0 40 = -1) := Lib.hid (Bt.first_full bs hfull)
          have HC : Hid (Bt.cnt bs = 40) := Lib.hid ((Bt.cnt_full bs HL.out KK.out.low).2 hfull)
          clear hfull
          go_wp2_with (go_at_call 16; refine (first_any _ _ _ _ _ _ _ KK.out.row (by omega)).mono ?_; rintro e w3 ⟨rfl, hb3⟩; have K3 := Lib.hid (KK.out.step hb3); have hlen := fun ty => K3.out.set.len ty; rw [HC.out] at hlen; rw [HF.out]; clear KK hb3)
          go_roundw
          case rel => exact ⟨k + 1, A1, c1, bs, by omega, by go_num, rfl, K3.out⟩
          case measure => simp [intOf]; omega
        · obtain ⟨i, hi, hf, hb0, hall⟩ := Bt.first_free bs HL.out hfull
          have HF := Lib.hid hf; clear hf
          have HB0 := Lib.hid hb0; clear hb0
          have HALL := Lib.hid hall; clear hall
          have HC : Hid (Bt.cnt bs ≠ 40) := Lib.hid (fun q => hfull ((Bt.cnt_full bs HL.out KK.out.low).1 q))
          clear hfull
          have hcl : Bt.cnt bs ≤ 512 := Bt.cnt_le bs HL.out
          have hne : ((Bt.cnt bs : Int) == 40) = false := by rw [beq_eq_false_iff_ne]; have := HC.out; omega
          go_wp2_with (go_at_call 16; refine (first_any _ _ _ _ _ _ _ KK.out.row (by omega)).mono ?_; rintro e w3 ⟨rfl, hb3⟩; have K3 := Lib.hid (KK.out.step hb3); have hlen := fun ty => K3.out.set.len ty; have hlook := K3.out.set.look i (by omega); rw [HB0.out] at hlook; rw [HF.out]; clear KK hb3)
          clear hlen hlook
          go_loop [8] (fun y => ∃ j : Nat, j ≤ i ∧ y = .int .i64 (j : Int)) (fun y => i - (intOf y).toNat)
          case atStart => exact ⟨0, Nat.zero_le _, rfl⟩
          case round =>
            obtain ⟨j, hj, rfl⟩ := hrel
            by_cases hji : j < i
            · have hlook := K3.out.set.look j (by omega)
              rw [HALL.out j hji] at hlook
              go_wp2
              go_round
              case rel => exact ⟨j + 1, by omega, by go_num⟩
              case measure => simp [intOf]; omega
            · obtain ⟨w4, hst, hS4, ht4⟩ := K3.out.set.store HL.out i (by omega) HB0.out
              have R4 := Lib.hid (K3.out.row.turned ht4)
              have S4 := Lib.hid hS4
              have B4 := Lib.hid (turn_below K3.out.bel hmb ht4)
              have HLW := Lib.hid (Bt.low_set bs HL.out K3.out.low i true hi)
              clear hS4 ht4
              go_wp2_with (first
                | (go_at_call 7; refine (set_any _ _ _ _ _ _ _ R4.out (by omega)).mono ?_; rintro e w5 ⟨v, rfl, ho, hb5⟩; rw [Bt.setB_nat bs i true (by rw [HL.out]; omega)] at ho; obtain ⟨A5, c5, rfl, hr5, _⟩ := OwnB.form ho; have K5 : Hid (Keep w w5 mb A5 (Bt.setBit bs i true)) := Lib.hid ⟨hr5, S4.out.step hb5, HLW.out, B4.out.trans (hb5.mono B4.out.size)⟩; clear ho hr5 hb5)
                | (go_at_call 15; refine (count_any _ _ _ _ _ _ _ K5.out.row (by omega)).mono ?_; rintro e w6 ⟨rfl, hb6⟩; have K6 := Lib.hid (K5.out.step hb6); have hlen := fun ty => K6.out.set.len ty; rw [show ((Bt.all (Bt.setBit bs i true) true 0 512).length : Int) = (Bt.cnt (Bt.setBit bs i true) : Int) from rfl]; clear K5 hb6))
              go_roundw
              case rel => exact ⟨k + 1, A5, c5, Bt.setBit bs i true, by omega, by go_num, rfl, K6.out⟩
              case measure => simp [intOf]; omega
      · obtain ⟨i, hie⟩ : ∃ i, x / 3 % 40 = i := ⟨_, rfl⟩
        have hi : i < 40 := by omega
        have HIE : Hid ((x : Int) / 3 % 40 = (i : Int)) := Lib.hid (by omega)
        clear hie
        obtain ⟨w4, hdr0, hS4, ht4⟩ := KK.out.set.drop HL.out i (by omega) 0
        have R4 := Lib.hid (KK.out.row.turned ht4)
        have S4 := Lib.hid hS4
        have B4 := Lib.hid (turn_below KK.out.bel hmb ht4)
        have HLW := Lib.hid (Bt.low_set bs HL.out KK.out.low i false hi)
        have hdr : ∀ ty, (Builtin.delete_ #[44, 3] ty #[.map (some mb), .int .i64 ((x : Int) / 3 % 40)]).run Try.prog wr = .ok (.tuple #[]) w4 := fun ty => by rw [HIE.out]; exact hdr0
        clear hS4 ht4 hdr0
        go_wp2_with (first
          | (go_at_call 7; rw [HIE.out]; refine (set_any _ _ _ _ _ _ _ R4.out (by omega)).mono ?_; rintro e w5 ⟨v, rfl, ho, hb5⟩; rw [Bt.setB_nat bs i false (by rw [HL.out]; omega)] at ho; obtain ⟨A5, c5, rfl, hr5, _⟩ := OwnB.form ho; have K5 : Hid (Keep w w5 mb A5 (Bt.setBit bs i false)) := Lib.hid ⟨hr5, S4.out.step hb5, HLW.out, B4.out.trans (hb5.mono B4.out.size)⟩; clear ho hr5 hb5)
          | (go_at_call 15; refine (count_any _ _ _ _ _ _ _ K5.out.row (by omega)).mono ?_; rintro e w6 ⟨rfl, hb6⟩; have K6 := Lib.hid (K5.out.step hb6); have hlen := fun ty => K6.out.set.len ty; rw [show ((Bt.all (Bt.setBit bs i false) true 0 512).length : Int) = (Bt.cnt (Bt.setBit bs i false) : Int) from rfl]; clear K5 hb6))
        go_roundw
        case rel => exact ⟨k + 1, A5, c5, Bt.setBit bs i false, by omega, by go_num, rfl, K6.out⟩
        case measure => simp [intOf]; omega
    · go_wp2
      go_ret
      exact ⟨rfl, KK.out.bel⟩
theorem walk (A : Option Addr) (n c : Nat) (xs : List UInt8) (w : World) (h : ByteRow w A n c xs) :
    Calls Try.prog 5 #[.slice A n c] w fun e w' => e = .returned (.bool true) ∧ Below w.heap.size w w' := by
  by_cases hn : n ≤ 60
  · exact walk_few A n c xs w h hn
  · exact walk_many A n c w h.small (by omega)
theorem own : ownKnob Try.prog.godebug = none := by kernel_rfl
theorem laidOut : laidOutB Try.prog = true := by kernel_rfl
set_option maxRecDepth 100000 in
theorem lifted (os : Os) (started : os.Started) (H : Type) (enc : TypeId × Value → H) :
    ReturnsInHanded {} Try.checked os 5 .any (Rows.bitsTakesSpec.pre6 enc Try.prog Try.f5 Rows.bitsTakesRow.domain false) (Rows.bitsTakesSpec.post enc Try.prog Try.f5 false true false false) := by
  refine returnsInHanded_of_change (C := Try.checked) own started (by kernel_rfl) Try.func5
    (ChangeSpec.witness6 (enc := enc) (C := Try.checked) false ⟨#[], #[.slice none 0 0], []⟩ 8 (by kernel_rfl) (by kernel_rfl) (by kernel_rfl) (by kernel_rfl)) ?_
  intro W base args ds gs before hval0 hW hcnd _
  have hval : ∀ (j : Nat) t v, Try.f5.params[j]? = some t → args[j]? = some v → Value.okWide Try.prog W .any base t v := hval0
  have hW' := hW
  obtain ⟨p, q, hA0, hV, rfl, hfz, hnd⟩ := hW
  have hA : DataW.TrodAll enc Try.prog W 0 (fun _ => true) true Try.f5.params.toList args.toList ds p := hA0
  rw [Try.params5] at hA hval
  obtain ⟨v0, vs0, d0, ds0, p0, q0, hargs, rfl, rfl, h0, r0⟩ := trodAll_cons hA
  obtain ⟨rfl, rfl, rfl⟩ := trodAll_nil r0
  obtain rfl : args = #[v0] := by cases args; simp_all
  obtain ⟨rfl, rfl⟩ := trodVars_none hV
  have k0 := h0
  have lt0 : ∀ x ∈ p0, x.block < W.heap.size := by obtain ⟨m, hm⟩ := k0; exact DataW.trod_lt m _ _ _ hm
  obtain ⟨A0, n0, c0, xs0, rfl, w0⟩ := open_bytes (hval 0 41 v0 rfl rfl) h0
  clear hA0 hval0
  refine (walk A0 n0 c0 xs0 W w0).mono fun e W' ⟨he, bel⟩ => ?_
  subst he
  exact ⟨_, rfl, _, _, _, [], _, [], hW', trodAll_mk1 (shut_bool Try.underlying4 _), (trodAll_cons_mk (Below.trod laidOut (by kernel_rfl) (of_decide_eq_true (by kernel_rfl)) k0 bel lt0) trodAll_mk0), rfl, bel.frame _, fun h => by cases h⟩
theorem over : Rows.bitsTakesRow.holds Try.pinned (OpenSpec.ofChange Rows.bitsTakesSpec) :=
  OpenClaim.holds_of_wide 5 Try.f5 rfl rfl rfl rfl rfl rfl rfl ⟨rfl, rfl, rfl, rfl, rfl⟩ rfl rfl rfl rfl rfl (by kernel_rfl) Try.func5 (by kernel_rfl)
    (of_decide_eq_true (by kernel_rfl)) (by unfold Func.isWrapper; first | (rw [if_pos (by decide +kernel)]; kernel_rfl) | (rw [if_neg (by decide +kernel)]; exact ⟨rfl, rfl⟩))
    (fun os started H enc _ => lifted os started H enc)

/-- THE STATEMENT -/
theorem proved : Rows.BitsTakesSaid := over
#print axioms proved
end Go.Proofs.Ytjjejdjhlnlhiaa.bitsTakes
