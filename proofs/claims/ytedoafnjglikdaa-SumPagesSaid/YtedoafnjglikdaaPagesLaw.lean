/-
  Proved: SumPages returns true for every row of pages: pages have the sum of their bytes.
  Conditions: none beside the statement's own.
-/
import Derived.Test.YtedoafnjglikdaaPages
import Derived.WalkKit
import Derived.ProofKit
import Derived.OpenShut
import Derived.ShutString
import Derived.ChangeOld
import Derived.Below
import Derived.Deep.Slices
namespace Go.Proofs.Ytedoafnjglikdaa.sumPages
open Go.ChangeShapes Go.WideShapes Go.ChangeAt Go.RowKit

theorem own : ownKnob Try.prog.godebug = none := by kernel_rfl
theorem laidOut : laidOutB Try.prog = true := by kernel_rfl
theorem cells33 : Try.prog.cellsOf 33 = 64 := by kernel_rfl
theorem cells5 : Try.prog.cellsOf 5 = 1 := by kernel_rfl

/-- a row of pages in memory -/
structure PageRow (w : World) (A : Option Addr) (n : Nat) (ps : List ByteArray) : Prop where
  len : ps.length = n
  small : n ≤ maxLen
  size : ∀ i, i < n → (ps.getD i ByteArray.empty).size = 64
  cells : 0 < n → ∃ b off, A = some ⟨b, off, none⟩ ∧ b < w.heap.size ∧ ∀ i, i < n → w.rangeAt b (off + i * 64) (byteVals (ps.getD i ByteArray.empty))

theorem list_of {α : Type} (P : Nat → α → Prop) : ∀ (n : Nat), (∀ i, i < n → ∃ a, P i a) → ∃ l : List α, l.length = n ∧ ∀ i, i < n → ∃ a, l[i]? = some a ∧ P i a
  | 0, _ => ⟨[], rfl, fun i hi => by omega⟩
  | n + 1, h => by
    obtain ⟨l, hl, hp⟩ := list_of P n (fun i hi => h i (by omega))
    obtain ⟨a, ha⟩ := h n (by omega)
    refine ⟨l ++ [a], by simp [hl], fun i hi => ?_⟩
    rcases Nat.lt_or_ge i n with hlt | hge
    · obtain ⟨x, hx, hpx⟩ := hp i hlt
      exact ⟨x, by rw [List.getElem?_append_left (by omega)]; exact hx, hpx⟩
    · obtain rfl : i = n := by omega
      exact ⟨a, by rw [List.getElem?_append_right (by omega), hl, Nat.sub_self]; rfl, ha⟩
theorem bytes_of : ∀ (cs : List Value), (∀ j, j < cs.length → ∃ v : Int, cs[j]? = some (.int .u8 v) ∧ 0 ≤ v ∧ v ≤ 255) → ∃ l : List UInt8, cs = l.map fun c => Value.int .u8 (c.toNat : Int)
  | [], _ => ⟨[], rfl⟩
  | u :: cs, h => by
    obtain ⟨l, rfl⟩ := bytes_of cs (fun j hj => by simpa using h (j + 1) (by simpa using hj))
    obtain ⟨v, hv, h0, h1⟩ := h 0 (by simp)
    have hu : u = .int .u8 v := by simpa using hv
    refine ⟨UInt8.ofNat v.toNat :: l, ?_⟩
    rw [List.map_cons, hu, UInt8.toNat_ofNat']
    congr 2
    omega

theorem open_pages {H : Type} {enc : TypeId × Value → H} {W : World} {base : Nat} {v : Value} {d : DataW H} {p : List MemPlace} (hv : Value.okWide Try.prog W .any base 31 v)
    (h : DataW.Trod enc Try.prog W 0 (fun _ => true) true 31 v d p) : ∃ A n c ps, v = .slice A n c ∧ PageRow W A n ps := by
  obtain ⟨A, n, c, rfl⟩ := okWide_slice Try.underlying31 hv
  obtain ⟨fuel, hf⟩ := h
  rcases Go.Deep.open_slice Try.underlying31 hf with ⟨hcs, _⟩ | ⟨a, len, cap, m, k, D, Pl, hcs, _, hl, hm, hmm, _, hi⟩
  · simp [Value.cells] at hcs
    obtain ⟨rfl, rfl, rfl⟩ := hcs
    exact ⟨_, _, _, [], rfl, rfl, by unfold maxLen; omega, fun i hi => by omega, fun hn => by omega⟩
  · simp [Value.cells] at hcs
    obtain ⟨rfl, rfl, rfl⟩ := hcs
    simp only [if_true] at hmm
    have each : ∀ i, i < n → ∃ q : ByteArray, q.size = 64 ∧ ∀ j u, (byteVals q)[j]? = some u → W.cell? ((a.add (i * 64)).add j) = some u := by
      intro i hin
      obtain ⟨cs, hc, ht⟩ := hi i (by omega)
      rw [cells33] at hc
      obtain ⟨_, hcl, hat⟩ := World.cells?_some hc
      obtain ⟨xs, mm, _, _, _, hxl, hx⟩ := DataW.trod_array Try.underlying33 ht
      obtain ⟨l, hl'⟩ := bytes_of cs (fun j hj => by
        have hj' : j < 64 := by omega
        have hx' := hx j hj'
        rw [cells5, Nat.mul_one] at hx'
        have hs : xs[j]? = some (xs[j]'(by omega)) := List.getElem?_eq_getElem (by omega)
        obtain ⟨v, hv, _, hw⟩ := DataW.trod_int Try.underlying5 (hx'.trans hs)
        have hb := bounds_u8 hw
        refine ⟨v, ?_, hb.1, hb.2⟩
        have e : (cs.drop j).take 1 = [cs[j]] := by rw [List.drop_eq_getElem_cons hj]; rfl
        rw [e] at hv
        rw [List.getElem?_eq_getElem hj]
        injection hv with hv
        rw [hv])
      have hbv : byteVals ⟨l.toArray⟩ = cs := by rw [hl']; simp [byteVals]
      refine ⟨⟨l.toArray⟩, ?_, fun j u hu => ?_⟩
      · rw [← byteVals_length, hbv, hcl]
      · rw [hbv] at hu
        have hj : j < 64 := by have := (List.getElem?_eq_some_iff.1 hu).1; omega
        rw [hat j hj, hu]
    obtain ⟨ps, hpl, hps⟩ := list_of _ n each
    have hget : ∀ i, i < n → (ps.getD i ByteArray.empty).size = 64 ∧ ∀ j u, (byteVals (ps.getD i ByteArray.empty))[j]? = some u → W.cell? ((a.add (i * 64)).add j) = some u := by
      intro i hin
      obtain ⟨q, hq, h1⟩ := hps i hin
      rw [List.getD_eq_getElem?_getD, hq]; exact h1
    refine ⟨_, _, _, ps, rfl, hpl, by omega, fun i hin => (hget i hin).1, fun hn => ?_⟩
    obtain ⟨b, off, spot⟩ := a
    obtain ⟨hz0, hc0⟩ := hget 0 hn
    have hv0 : (byteVals (ps.getD 0 ByteArray.empty))[0]? = some ((byteVals (ps.getD 0 ByteArray.empty))[0]'(by rw [byteVals_length, hz0]; omega)) := List.getElem?_eq_getElem _
    have hcell0 := hc0 0 _ hv0
    have hspot : spot = none := by simpa [Addr.add] using World.cell?_spot hcell0
    subst hspot
    refine ⟨b, off, rfl, ?_, fun i hin j u hu => ?_⟩
    · rw [Addr.add_mid, Addr.add_mid] at hcell0
      exact World.block_lt_of_cell? W _ hcell0
    · have := (hget i hin).2 j u hu
      rw [Addr.add_mid, Addr.add_mid] at this
      exact this

theorem PageRow.below {w w' : World} {A : Option Addr} {n : Nat} {ps : List ByteArray} (h : PageRow w A n ps) (hb : Below w.heap.size w w') : PageRow w' A n ps where
  len := h.len
  small := h.small
  size := h.size
  cells := fun hn => by
    obtain ⟨b, off, rfl, hlt, hc⟩ := h.cells hn
    exact ⟨b, off, rfl, Nat.lt_of_lt_of_le hlt hb.size, fun i hi j v hv => (hb.cell (p := ⟨b, off + i * 64 + j, none⟩) hlt).trans (hc i hi j v hv)⟩

def sumP (ps : List ByteArray) : Int := Mt.joinN (Mt.run (0, 0) (bytesOf ps))
set_option maxHeartbeats 400000 in
theorem pages_zero (A : Option Addr) (c : Nat) (w : World) :
    Calls Try.prog 14 #[.slice A 0 c] w fun e w' => e = .returned (.int .u32 (Mt.joinN (Mt.splitN 0))) ∧ Below w.heap.size w w' := by
  obtain ⟨f1, f2, f3, f4⟩ := Mt.fit_split 0
  go_enter Try.func14, Try.ntmps14
  go_wp2_with (go_at_call 15; refine (split_any _ _ (by omega) (by omega)).mono ?_; rintro e w' ⟨rfl, rfl⟩)
  go_loop [3, 4, 13] (fun a d i => a = .int .u32 (Mt.splitN 0).1 ∧ d = .int .u32 (Mt.splitN 0).2 ∧ i = .int .i64 0) (fun _ _ _ => 0)
  case atStart => exact ⟨rfl, rfl, rfl⟩
  case round =>
    obtain ⟨rfl, rfl, rfl⟩ := hrel
    go_wp2_with (go_at_call 17; refine (join_any _ _ _ f1 f2 f3 f4).mono ?_; rintro e w' ⟨rfl, rfl⟩)
    go_ret
    exact ⟨rfl, Below.refl _ _⟩
theorem pages_any (A : Option Addr) (n c : Nat) (ps : List ByteArray) (w : World) (h : PageRow w A n ps) (hn : n ≤ 40) :
    Calls Try.prog 14 #[.slice A n c] w fun e w' => e = .returned (.int .u32 (sumP ps)) ∧ Below w.heap.size w w' := by
  by_cases h0 : n = 0
  · subst h0
    have hs : ps = [] := List.eq_nil_of_length_eq_zero h.len
    subst hs
    exact pages_zero A c w
  · obtain ⟨b, off, rfl, hlt, hc⟩ := h.cells (by omega)
    exact pages_row b off n c ps w h.len hn hlt h.size hc
def joined (ss : List ByteArray) : ByteArray := ⟨(bytesOf ss).toArray⟩
theorem joined_snoc (ss : List ByteArray) (k : Nat) (h : k < ss.length) : joined (ss.take (k + 1)) = joined (ss.take k) ++ ss.getD k ByteArray.empty := by
  unfold joined
  rw [take_one ss k h, bytesOf_snoc]
  apply ByteArray.ext
  simp [ByteArray.data_append]
theorem joined_size (ps : List ByteArray) (n : Nat) (hl : ps.length = n) (hs : ∀ i, i < n → (ps.getD i ByteArray.empty).size = 64) : ∀ k, k ≤ n → (joined (ps.take k)).size = k * 64
  | 0, _ => by simp [joined, bytesOf, ByteArray.size]
  | k + 1, hk => by
    rw [joined_snoc ps k (by omega), ByteArray.size_append, joined_size ps n hl hs k (by omega), hs k (by omega)]; omega
theorem ref_L (ps : List ByteArray) (w : World) (hs : (joined ps).size ≤ 2560) :
    Calls Try.prog 12 #[.int .u32 0, .string (joined ps)] w fun e w' => e = .returned (.int .u32 (sumP ps)) ∧ w = w' :=
  ref_any 0 (joined ps) w (by omega) (by omega) (by unfold maxLen; omega)

set_option maxHeartbeats 1000000 in
theorem walk_many (A : Option Addr) (n c : Nat) (w : World) (hm : n ≤ maxLen) (hn : 40 < n) :
    Calls Try.prog 4 #[.slice A n c] w fun e w' => e = .returned (.bool true) ∧ Below w.heap.size w w' := by
  unfold maxLen at hm
  go_enter Try.func4, Try.ntmps4
  go_wp2_with fail
  refine (awake_any w).mono ?_
  rintro e w1 ⟨rfl, hb⟩
  go_wp2_with fail
  go_ret
  exact ⟨rfl, hb⟩

set_option maxHeartbeats 1000000 in
theorem walk_zero (A : Option Addr) (c : Nat) (w : World) :
    Calls Try.prog 4 #[.slice A 0 c] w fun e w' => e = .returned (.bool true) ∧ Below w.heap.size w w' := by
  go_enter Try.func4, Try.ntmps4
  go_wp2_with fail
  refine (awake_any w).mono ?_
  rintro e w1 ⟨rfl, hb⟩
  go_wp2_with fail
  go_loop [3, 13] (fun t i => t = .string ⟨#[]⟩ ∧ i = .int .i64 0) (fun _ _ => 0)
  case atStart => exact ⟨rfl, rfl⟩
  case round =>
    obtain ⟨rfl, rfl⟩ := hrel
    go_wp2_with fail
    refine (pages_any A 0 c [] w1 ⟨rfl, by unfold maxLen; omega, fun i hi => by omega, fun hn => by omega⟩ (by omega)).mono ?_
    rintro e w2 ⟨rfl, hb2⟩
    go_wp2_with fail
    refine (ref_L [] w2 (by simp [joined, bytesOf, ByteArray.size])).mono ?_
    rintro e w' ⟨rfl, rfl⟩
    go_wp2_with fail
    go_ret
    exact ⟨rfl, hb.trans (hb2.mono hb.size)⟩

set_option maxHeartbeats 1000000 in
theorem walk_row (b off n c : Nat) (ps : List ByteArray) (w : World) (h : PageRow w (some ⟨b, off, none⟩) n ps) (hblt : b < w.heap.size) (hn : n ≤ 40) (hpos : 0 < n) (hcell : ∀ i, i < n → w.rangeAt b (off + i * 64) (byteVals (ps.getD i ByteArray.empty))) :
    Calls Try.prog 4 #[.slice (some ⟨b, off, none⟩) n c] w fun e w' => e = .returned (.bool true) ∧ Below w.heap.size w w' := by
  have HC := Lib.hid hcell; clear hcell
  have HL := Lib.hid h.len
  have HZ := Lib.hid h.size
  have HJ := Lib.hid (joined_size ps n h.len h.size)
  go_enter Try.func4, Try.ntmps4
  go_wp2_with fail
  refine (awake_any w).mono ?_
  rintro e w1 ⟨rfl, hb⟩
  go_wp2_with fail
  go_loopw [3, 13] (fun t i wr => ∃ k : Nat, k ≤ n ∧ i = .int .i64 k ∧ t = .string (joined (ps.take k)) ∧ Below w.heap.size w wr) (fun _ i _ => n - (intOf i).toNat)
  case atStart => exact ⟨0, Nat.zero_le _, rfl, rfl, hb⟩
  case round =>
    obtain ⟨k, hk, rfl, rfl, hbel⟩ := hrel
    have hj := HJ.out k hk
    have hj' : (joined (ps.take k)).size ≤ 2560 := by omega
    clear hj
    by_cases hlt : k < n
    · have HS := Lib.hid (joined_snoc ps k (by rw [HL.out]; exact hlt))
      have hcr : Hid (wr.rangeAt b (off + k * 64) (byteVals (ps.getD k ByteArray.empty))) := Lib.hid fun j v hv => (hbel.cell (p := ⟨b, off + k * 64 + j, none⟩) hblt).trans (HC.out k hlt j v hv)
      have hz := Lib.hid (HZ.out k hlt)
      generalize ps.getD k ByteArray.empty = p at hcr HS hz
      have hpz : p.size ≤ 64 := by rw [hz.out]; exact Nat.le_refl _
      have hlen : Hid ((byteVals p).length = 64) := Lib.hid (by rw [byteVals_length]; exact hz.out)
      generalize joined (ps.take k) = t at hj' HS ⊢
      go_wp2_with (first
        | (with_reducible refine wpList_load_mid rfl 33 (.tmp 15) rfl b (off + k * 64) rfl (byteVals p) _ hcr.out Try.underlying33 rfl (page_info.trans (congrArg some hlen.out.symm)) ?_)
        | (refine wpList_store_page rfl (.tmp 5) (.tmp 16) rfl rfl rfl rfl hz.out hbel ?_; intro W2 hB2 hcv))
      go_roundw
      case rel => exact ⟨k + 1, by omega, by go_num, by rw [HS.out], hB2⟩
      case measure => simp [intOf]; omega
    · have HK : ps.take k = ps := List.take_of_length_le (by rw [HL.out]; omega)
      rw [HK] at hj' ⊢
      go_wp2_with fail
      refine (pages_any _ n c ps wr (h.below hbel) hn).mono ?_
      rintro e w2 ⟨rfl, hb2⟩
      go_wp2_with fail
      refine (ref_L ps w2 hj').mono ?_
      rintro e w' ⟨rfl, rfl⟩
      go_wp2_with fail
      go_ret
      exact ⟨rfl, hbel.trans (hb2.mono hbel.size)⟩

theorem walk (A : Option Addr) (n c : Nat) (ps : List ByteArray) (w : World) (h : PageRow w A n ps) :
    Calls Try.prog 4 #[.slice A n c] w fun e w' => e = .returned (.bool true) ∧ Below w.heap.size w w' := by
  by_cases hn : n ≤ 40
  · by_cases h0 : n = 0
    · subst h0; exact walk_zero A c w
    · obtain ⟨b, off, rfl, hlt, hc⟩ := h.cells (by omega)
      exact walk_row b off n c ps w h hlt hn (by omega) hc
  · exact walk_many A n c w h.small (by omega)

set_option maxRecDepth 100000 in
theorem lifted (os : Os) (started : os.Started) (H : Type) (enc : TypeId × Value → H) :
    ReturnsInHanded {} Try.checked os 4 .any (Rows.sumPagesSpec.pre6 enc Try.prog Try.f4 Rows.sumPagesRow.domain false) (Rows.sumPagesSpec.post enc Try.prog Try.f4 false true false false) := by
  refine returnsInHanded_of_change (C := Try.checked) own started (by kernel_rfl) Try.func4
    (ChangeSpec.witness6 (enc := enc) (C := Try.checked) false ⟨#[], #[.slice none 0 0], []⟩ 8 (by kernel_rfl) (by kernel_rfl) (by kernel_rfl) (by kernel_rfl)) ?_
  intro W base args ds gs before hval0 hW hcnd _
  have hval : ∀ (j : Nat) t v, Try.f4.params[j]? = some t → args[j]? = some v → Value.okWide Try.prog W .any base t v := hval0
  have hW' := hW
  obtain ⟨p, q, hA0, hV, rfl, hfz, hnd⟩ := hW
  have hA : DataW.TrodAll enc Try.prog W 0 (fun _ => true) true Try.f4.params.toList args.toList ds p := hA0
  rw [Try.params4] at hA hval
  obtain ⟨v0, vs0, d0, ds0, p0, q0, hargs, rfl, rfl, h0, r0⟩ := trodAll_cons hA
  obtain ⟨rfl, rfl, rfl⟩ := trodAll_nil r0
  obtain rfl : args = #[v0] := by cases args; simp_all
  obtain ⟨rfl, rfl⟩ := trodVars_none hV
  have k0 := h0
  have lt0 : ∀ x ∈ p0, x.block < W.heap.size := by obtain ⟨m, hm⟩ := k0; exact DataW.trod_lt m _ _ _ hm
  obtain ⟨A0, n0, c0, ps0, rfl, w0⟩ := open_pages (hval 0 31 v0 rfl rfl) h0
  clear hA0 hval0
  refine (walk A0 n0 c0 ps0 W w0).mono fun e W' ⟨he, bel⟩ => ?_
  subst he
  exact ⟨_, rfl, _, _, _, [], _, [], hW', trodAll_mk1 (shut_bool Try.underlying4 _), (trodAll_cons_mk (Below.trod laidOut (by kernel_rfl) (of_decide_eq_true (by kernel_rfl)) k0 bel lt0) trodAll_mk0), rfl, bel.frame _, fun h => by cases h⟩

theorem over : Rows.sumPagesRow.holds Try.pinned (OpenSpec.ofChange Rows.sumPagesSpec) :=
  OpenClaim.holds_of_wide 4 Try.f4 rfl rfl rfl rfl rfl rfl rfl ⟨rfl, rfl, rfl, rfl, rfl⟩ rfl rfl rfl rfl rfl (by kernel_rfl) Try.func4 (by kernel_rfl)
    (of_decide_eq_true (by kernel_rfl)) (by unfold Func.isWrapper; first | (rw [if_pos (by decide +kernel)]; kernel_rfl) | (rw [if_neg (by decide +kernel)]; exact ⟨rfl, rfl⟩))
    (fun os started H enc _ => lifted os started H enc)

/-- THE STATEMENT -/
theorem proved : Rows.SumPagesSaid := over
#print axioms proved
end Go.Proofs.Ytedoafnjglikdaa.sumPages
