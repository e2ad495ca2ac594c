/- Texts of the proof: Brow, Bleaf, Bset, Fset, Iright, Fwith, Fleast, Bthose. -/
import Derived.Test.YtncmihikpcdgoaaGreatMaa
import Derived.Test.YtncmihikpcdgoaaGreatMaf
import Derived.Deep.Slices
import Derived.Deep.AppendLies
import Derived.Laws.OwnMore
import Derived.Laws.AppendOwnNone
import Derived.ProofKit
import Derived.OpenShut
import Derived.ChangeOld
import Derived.BigQuiet
import Derived.BigRegion
import Derived.Lib.SliceRun
import Derived.Test.YtncmihikpcdgoaaGreatMaj
import Derived.Test.YtncmihikpcdgoaaGreatMac
import Derived.Test.YtncmihikpcdgoaaGreatMai
import Derived.Test.YtncmihikpcdgoaaGreatMah
import Derived.RangeFuncNested
import Derived.RangeFuncBound
import Derived.RangeFuncCalls
import Derived.RangeFuncLeaves
import Derived.RangeFuncBox
import Derived.Shelf.Abstract
import Derived.Shelf.RegionOpen
import Derived.WalkKit
import Derived.OwnWalkIn
import Derived.TacticsInMore
import Derived.LoopNIn
import Derived.LoopIn
namespace Go.Proofs.YtncmihikpcdgoaaGreat
open Go.ChangeShapes Go.WideShapes Go.ChangeAt Go.RowKit
/-- a row of pages in memory: their bytes -/
structure Row (w : World) (A : Option Addr) (n : Nat) (bs : List UInt8) : Prop where
  len : bs.length = 64 * n
  small : n ≤ maxLen
  nul : A = none → n = 0
  cells : 0 < n → ∃ b off, A = some ⟨b, off, none⟩ ∧ b < w.heap.size ∧ ∀ j, j < 64 * n → w.cell? ⟨b, off + j, none⟩ = some (.int .u8 ((bs.getD j 0).toNat : Int))
set_option maxRecDepth 100000 in
theorem Row.keep {w w' : World} {A : Option Addr} {n : Nat} {bs : List UInt8} (h : Row w A n bs) (hs : w.heap.size ≤ w'.heap.size) (hb : 0 < n → ∀ b off, A = some ⟨b, off, none⟩ → b < w.heap.size → w'.heap[b]? = w.heap[b]?) : Row w' A n bs where
  len := h.len
  small := h.small
  nul := h.nul
  cells := fun hn => by
    obtain ⟨b, off, rfl, hlt, hc⟩ := h.cells hn
    exact ⟨b, off, rfl, Nat.lt_of_lt_of_le hlt hs, fun j hj => (World.cell?_of_block (a := ⟨b, off + j, none⟩) (hb hn b off rfl hlt)).trans (hc j hj)⟩
set_option maxRecDepth 100000 in
theorem Row.step {w w' : World} {A : Option Addr} {n : Nat} {bs : List UInt8} (h : Row w A n bs) (hb : Below w.heap.size w w') : Row w' A n bs :=
  h.keep hb.size fun _ b _ _ hlt => hb.block b hlt
set_option maxRecDepth 100000 in
theorem Row.drewN {w : World} {A : Option Addr} {n : Nat} {bs : List UInt8} (h : Row w A n bs) (m : Nat) : Row (w.drewN m) A n bs :=
  h.keep (Nat.le_refl _) fun _ _ _ _ _ => rfl
def OwnB (W : World) (base : Nat) (v : Value) (n : Nat) (bs : List UInt8) : Prop := W.ownsRow base 68 64 v n (byteVals bs)
set_option maxRecDepth 100000 in
theorem bpage_type : ∃ i z, Tryz.prog.info? 68 = some i ∧ i.zero = some z ∧ i.size = 64 ∧ i.bytes = 64 ∧ z.cells.size = 64 := by
  have e : (Tryz.prog.info? 68).map (fun i => (i.zero.map (·.cells.size), i.size, i.bytes)) = some (some 64, 64, 64) := by kernel_rfl
  cases h : Tryz.prog.info? 68 with
  | none => rw [h] at e; cases e
  | some i =>
    rw [h] at e
    simp only [Option.map_some, Option.some.injEq, Prod.mk.injEq] at e
    obtain ⟨e1, e2, e3⟩ := e
    cases hz : i.zero with
    | none => rw [hz] at e1; cases e1
    | some z => rw [hz] at e1; exact ⟨i, z, rfl, hz, e2, e3, by simpa using e1⟩
set_option maxRecDepth 100000 in
theorem OwnB.len {W : World} {base : Nat} {v : Value} {n : Nat} {bs : List UInt8} (h : OwnB W base v n bs) : bs.length = 64 * n := by
  have := h.1
  rw [byteVals_length] at this
  omega
set_option maxRecDepth 100000 in
theorem OwnB.form {W : World} {base : Nat} {v : Value} {n : Nat} {bs : List UInt8} (h : OwnB W base v n bs) :
    ∃ A cap, v = .slice A n cap ∧ Row W A n bs ∧ (∀ b off, A = some ⟨b, off, none⟩ → base ≤ b ∧ off = 0) ∧ n ≤ cap := by
  have hl := h.len
  obtain ⟨hl', h'⟩ := id h
  rcases h' with ⟨rfl, h0⟩ | ⟨g, cap, cur, rfl, hb, hg, hc, hcm, hcs, ht⟩
  · exact ⟨none, 0, by rw [h0], ⟨hl, by unfold maxLen; omega, fun _ => h0, fun hn => by omega⟩, fun b off q => (by cases q), by omega⟩
  · have hlt : g < W.heap.size := by
      rcases Nat.lt_or_ge g W.heap.size with hlt | hge
      · exact hlt
      · rw [Array.getElem?_eq_none hge] at hg; cases hg
    refine ⟨some ⟨g, 0, none⟩, cap, rfl, ⟨hl, Nat.le_trans hc hcm, fun q => (by cases q), fun hn => ⟨g, 0, rfl, hlt, fun j hj => ?_⟩⟩, fun b off q => ?_, hc⟩
    · have hj' : j < bs.length := by omega
      have := World.ownsRow.cellAt h j (by omega)
      rw [Nat.zero_add, this, byteVals_at bs j hj', List.getD_eq_getElem?_getD, List.getElem?_eq_getElem hj']; rfl
    · injection q with q; injection q with q1 q2; exact ⟨by omega, q2.symm⟩
set_option maxRecDepth 100000 in
theorem OwnB.nul {W : World} {base : Nat} {A : Option Addr} {c n : Nat} {bs : List UInt8} (h : OwnB W base (.slice A n c) n bs) : A = none → c = 0 := fun q => by
  rcases h.2 with ⟨e, _⟩ | ⟨g, cap, cur, e, _⟩
  · injection e
  · injection e with e1; rw [q] at e1; cases e1
set_option maxRecDepth 100000 in
theorem grown_below {W W' : World} (hb : Below W.heap.size W W') : W.grownBy W' none := ⟨hb.os, hb.tape, hb.output, hb.size, fun k hk _ => hb.block k hk⟩
set_option maxRecDepth 100000 in
theorem OwnB.step {W W' : World} {base : Nat} {v : Value} {n : Nat} {bs : List UInt8} (h : OwnB W base v n bs) (hb : Below W.heap.size W W') : OwnB W' base v n bs := by
  refine World.ownsRow.kept h (grown_below hb) ?_
  cases hv : v.ownBlock with
  | none => exact Or.inl rfl
  | some g => exact Or.inr (fun e => by cases e)
set_option maxRecDepth 100000 in
theorem OwnB.mono {W : World} {base base' : Nat} {v : Value} {n : Nat} {bs : List UInt8} (h : OwnB W base v n bs) (hb : base' ≤ base) : OwnB W base' v n bs := by
  obtain ⟨h1, h2⟩ := h
  refine ⟨h1, ?_⟩
  rcases h2 with h2 | ⟨g, cap, cur, e, hg, r⟩
  · exact Or.inl h2
  · exact Or.inr ⟨g, cap, cur, e, Nat.le_trans hb hg, r⟩
set_option maxRecDepth 100000 in
theorem bbelow_drewN (N : Nat) (w : World) (m : Nat) : Below N w (w.drewN m) := ⟨rfl, rfl, rfl, Nat.le_refl _, fun _ _ => rfl⟩
end Go.Proofs.YtncmihikpcdgoaaGreat

namespace Go.Proofs.YtncmihikpcdgoaaGreat
open Go.RowKit
set_option maxRecDepth 100000 in
set_option maxHeartbeats 400000 in
theorem bthere_yes (i n : Nat) (A : Option Addr) (c : Nat) (w : World) (hn : n ≤ 1000) (h : i < n * 512) :
    Calls Tryz.prog 127 #[.int .i64 (i : Int), .slice A n c] w fun e w' => e = .returned (.bool true) ∧ w = w' := by
  go_enter Tryz.func127, Tryz.ntmps127
  go_wp2
  go_ret
  exact ⟨ret_bool (by simp; omega), rfl⟩
set_option maxRecDepth 100000 in
set_option maxHeartbeats 400000 in
theorem bthere_no (i : Int) (n : Nat) (A : Option Addr) (c : Nat) (w : World) (hn : n ≤ 1000) (h : ¬ (0 ≤ i ∧ i < (n : Int) * 512)) :
    Calls Tryz.prog 127 #[.int .i64 i, .slice A n c] w fun e w' => e = .returned (.bool false) ∧ w = w' := by
  go_enter Tryz.func127, Tryz.ntmps127
  by_cases c1 : 0 ≤ i
  · go_wp2
    go_ret
    exact ⟨ret_bool (by simp; omega), rfl⟩
  · go_wp2
    go_ret
    exact ⟨rfl, rfl⟩
set_option maxRecDepth 100000 in
set_option maxHeartbeats 400000 in
theorem place_any (i : Nat) (w : World) (h : i < 512000) :
    Calls Tryz.prog 128 #[.int .i64 (i : Int)] w fun e w' => e = .returned (.tuple #[.int .i64 ((i / 512 : Nat) : Int), .int .i64 ((i % 512 / 8 : Nat) : Int), .int .u8 ((Bt.pw (i % 8) : Nat) : Int)]) ∧ ∃ m, w' = w.drewN m := by
  have hr : Hid ((2 ^ (i % 8) : Int) % 256 = ((Bt.pw (i % 8) : Nat) : Int)) := Lib.hid (by
    have hp := Bt.pw_lt (i % 8) (Nat.mod_lt _ (by omega))
    have e : ((Bt.pw (i % 8) : Nat) : Int) = (2 ^ (i % 8) : Int) := by rw [Bt.pw_def]; push_cast; rfl
    rw [← e]; exact Int.emod_eq_of_lt (by omega) (by omega))
  go_enter Tryz.func128, Tryz.ntmps128
  go_wp2
  go_quiet (fail)
  go_wp2
  go_ret3
  refine ⟨?_, _, rfl⟩
  simp [hr.out]
set_option maxRecDepth 100000 in
/-- the byte of a bit, in memory -/
theorem Row.byte {w : World} {b off n : Nat} {bs : List UInt8} (hc : ∀ j, j < 64 * n → w.cell? ⟨b, off + j, none⟩ = some (.int .u8 ((bs.getD j 0).toNat : Int))) (i : Nat) (h : i < n * 512) :
    w.cell? ⟨b, off + i / 512 * 64 + i % 512 / 8, none⟩ = some (.int .u8 ((bs.getD (i / 8) 0).toNat : Int)) := by
  have e : i / 512 * 64 + i % 512 / 8 = i / 8 := by omega
  have := hc (i / 8) (by omega)
  rw [Nat.add_assoc, e]; exact this
set_option maxRecDepth 100000 in
set_option maxHeartbeats 400000 in
theorem bget_no (i : Int) (A : Option Addr) (n c : Nat) (w : World) (hn : n ≤ 1000) (h : ¬ (0 ≤ i ∧ i < (n : Int) * 512)) :
    Calls Tryz.prog 144 #[.int .i64 i, .slice A n c] w fun e w' => e = .returned (.bool false) ∧ ∃ m, w' = w.drewN m := by
  have HH := Lib.hid h; clear h
  go_enter Tryz.func144, Tryz.ntmps144
  go_wp2_with (go_at_call 127; refine (bthere_no _ _ _ _ _ hn HH.out).mono ?_; rintro e w' ⟨rfl, rfl⟩)
  go_ret
  exact ⟨rfl, 0, rfl⟩
set_option maxRecDepth 100000 in
set_option maxHeartbeats 400000 in
theorem bget_yes (i : Nat) (b off n c : Nat) (bs : List UInt8) (w : World) (hn : n ≤ 1000) (h : i < n * 512)
    (hc : ∀ j, j < 64 * n → w.cell? ⟨b, off + j, none⟩ = some (.int .u8 ((bs.getD j 0).toNat : Int))) :
    Calls Tryz.prog 144 #[.int .i64 (i : Int), .slice (some ⟨b, off, none⟩) n c] w fun e w' => e = .returned (.bool (Bt.bit bs i)) ∧ ∃ m, w' = w.drewN m := by
  have hb := Row.byte hc i h
  clear hc
  have hi : i < 512000 := by omega
  have hx := (bs.getD (i / 8) 0).toNat_lt
  have hp := Bt.pw_lt (i % 8) (Nat.mod_lt _ (by omega))
  have HB : Hid (Bt.bit bs i = !decide ((bs.getD (i / 8) 0).toNat &&& Bt.pw (i % 8) = 0)) := Lib.hid (by
    unfold Bt.bit
    rw [Bt.pw_def]
    have := Bt.and_bit (bs.getD (i / 8) 0).toNat (i % 8)
    cases hq : (bs.getD (i / 8) 0).toNat.testBit (i % 8) <;> simp_all)
  generalize (bs.getD (i / 8) 0).toNat = x at hb hx HB
  have hq1 : i / 512 < n := by omega
  have hq2 : i % 512 / 8 < 64 := by omega
  go_enter Tryz.func144, Tryz.ntmps144
  go_wp2_with (first | (go_at_call 127; refine (bthere_yes _ _ _ _ _ hn h).mono ?_; rintro e w' ⟨rfl, rfl⟩) | (go_at_call 128; refine (place_any _ _ hi).mono ?_; rintro e w' ⟨rfl, m, rfl⟩))
  go_ret
  refine ⟨ret_bool ?_, _, rfl⟩
  rw [HB.out, u8_and_nat _ _ hx hp]
  cases hz : decide (x &&& Bt.pw (i % 8) = 0) <;> simp_all
set_option maxRecDepth 100000 in
theorem bget_any (i : Int) (A : Option Addr) (n c : Nat) (bs : List UInt8) (w : World) (h : Row w A n bs) (hn : n ≤ 1000) :
    Calls Tryz.prog 144 #[.int .i64 i, .slice A n c] w fun e w' => e = .returned (.bool (Bt.getB bs i)) ∧ ∃ m, w' = w.drewN m := by
  by_cases hi : 0 ≤ i ∧ i < (n : Int) * 512
  · obtain ⟨k, rfl⟩ := Int.eq_ofNat_of_zero_le hi.1
    obtain ⟨b, off, rfl, _, hc⟩ := h.cells (by omega)
    rw [Bt.getB_nat]
    exact bget_yes k b off n c bs w hn (by omega) hc
  · rw [Bt.getB_no bs n h.len i hi]
    exact bget_no i A n c w hn hi
end Go.Proofs.YtncmihikpcdgoaaGreat

namespace Go.Proofs.YtncmihikpcdgoaaGreat
open Go.RowKit
set_option maxRecDepth 100000 in
theorem own_empty (w : World) : OwnB (w.alloc (.cells #[] 68)) w.heap.size (.slice (some ⟨w.heap.size, 0, none⟩) 0 0) 0 [] := World.ownsRow_made w #[] 0 (Nat.le_refl _) (Nat.zero_le _) rfl
set_option maxRecDepth 100000 in
theorem byteVals_cell {w : World} {b off n : Nat} {bs : List UInt8} (hl : bs.length = 64 * n) (hc : ∀ j, j < 64 * n → w.cell? ⟨b, off + j, none⟩ = some (.int .u8 ((bs.getD j 0).toNat : Int))) :
    ∀ j u, (byteVals bs)[j]? = some u → w.cell? ((⟨b, off, none⟩ : Addr).add j) = some u := by
  intro j u hu
  have hj : j < bs.length := by
    have := (List.getElem?_eq_some_iff.1 hu).1
    rwa [byteVals_length] at this
  rw [byteVals_at bs j hj] at hu
  have := hc j (by omega)
  rw [List.getD_eq_getElem?_getD, List.getElem?_eq_getElem hj, Option.getD_some] at this
  rw [Addr.add_mid, this, hu]
set_option maxRecDepth 100000 in
/-- what 'append([]api.Page{}, l...)' makes -/
theorem wpList_copy {ops : Array Oper} {rest : List Oper} {o : Oper} {a : Act} {Q : Exit → Act → World → Prop} {w : World} {A : Option Addr} {n c : Nat} {bs : List UInt8} (hr : Row w A n bs) (hn : n ≤ 1000) (hA : A ≠ none)
    (hgd : o.guard = none) (s x : Operand) (ho : o.op = .call { callee := .builtin .append, args := #[s, x], argTypes := #[101, 101] }) (hs : a.eval s = .slice (some ⟨w.heap.size, 0, none⟩) 0 0) (hx : a.eval x = .slice A n c)
    (h : ∀ v w', OwnB w' w.heap.size v n bs → Below w.heap.size w w' → wpList Tryz.prog ops Q rest (a.put o.dst v) w') :
    wpList Tryz.prog ops Q (o :: rest) a (w.alloc (.cells #[] 68)) := by
  obtain ⟨i, z, hi, hz, h64, hby, hzs⟩ := bpage_type
  obtain ⟨ad, rfl⟩ := Option.ne_none_iff_exists'.1 hA
  refine wpList_append_own_at _ hgd s x 101 ho w.heap.size 68 i z 64 64 Tryz.underlying101 hi hz h64 hby hzs (by omega) _ 0 [] hs (own_empty w) ad n c (byteVals bs) hx (by rw [byteVals_length, hr.len]; omega) ?_ (byteVals_one bs) (by unfold maxLen; omega) (by omega) (by simp) ?_
  · intro j u hu
    have hj : j < bs.length := by
      have := (List.getElem?_eq_some_iff.1 hu).1
      rwa [byteVals_length] at this
    have hl := hr.len
    obtain ⟨b, off, e, hlt, hc⟩ := hr.cells (by omega)
    injection e with e
    subst e
    refine Eq.trans (World.cell?_of_block (w := w) (Below.heap_alloc w _ _ ?_)) (byteVals_cell hl hc j u hu)
    rw [Addr.add_mid]; exact hlt
  · intro v w' h1 h2 _ _
    rw [Nat.zero_add, List.nil_append] at h1
    refine h v w' h1 (((Below.refl _ w).alloc (Nat.le_refl _) _).grown h2 (by simp) ?_)
    intro k hk
    simp [Value.ownBlock] at hk
    omega
set_option maxRecDepth 100000 in
set_option maxHeartbeats 400000 in
theorem clone_any (A : Option Addr) (n c : Nat) (bs : List UInt8) (w : World) (h : Row w A n bs) (hn : n ≤ 1000) :
    Calls Tryz.prog 126 #[.slice A n c] w fun e w' => ∃ v, e = .returned v ∧ OwnB w' w.heap.size v n bs ∧ Below w.heap.size w w' := by
  cases A with
  | none =>
    have h0 := h.nul rfl
    subst h0
    have hb : bs = [] := List.eq_nil_of_length_eq_zero (by rw [h.len])
    subst hb
    clear h
    have q22 := fun w : World => Lib.run_eql_slice_nil (P := Tryz.prog) w 101 68 none 0 c 0 0 Tryz.underlying101
    go_enter Tryz.func126, Tryz.ntmps126
    go_wp2
    go_ret
    exact ⟨_, rfl, World.ownsRow_nil _ _ _ _, Below.refl _ _⟩
  | some ad =>
    have HR := Lib.hid h; clear h
    have q22 := fun w : World => Lib.run_eql_slice_nil (P := Tryz.prog) w 101 68 (some ad) n c 0 0 Tryz.underlying101
    go_enter Tryz.func126, Tryz.ntmps126
    go_wp2_with (at_builtin; go_must (refine wpList_copy (c := c) HR.out hn (Option.some_ne_none ad) rfl (.tmp 5) (.tmp 6) rfl ?_ ?_ ?_); (exact rfl); (exact rfl); intro v w' h1 h2)
    go_ret
    exact ⟨_, rfl, h1, h2⟩
set_option maxRecDepth 100000 in
/-- a byte of one's own is written -/
theorem OwnB.put {W : World} {base g cap n : Nat} {bs : List UInt8} (h : OwnB W base (.slice (some ⟨g, 0, none⟩) n cap) n bs) (j : Nat) (c : UInt8) :
    OwnB (W.setCell ⟨g, j, none⟩ (.int .u8 (c.toNat : Int))) base (.slice (some ⟨g, 0, none⟩) n cap) n (bs.set j c) ∧ W.grownBy (W.setCell ⟨g, j, none⟩ (.int .u8 (c.toNat : Int))) (some g) := by
  have := World.ownsRow.stored h j (.int .u8 (c.toNat : Int))
  rw [byteVals_set] at this
  exact this
set_option maxRecDepth 100000 in
theorem own_byte {W : World} {base g cap n : Nat} {bs : List UInt8} (h : OwnB W base (.slice (some ⟨g, 0, none⟩) n cap) n bs) (i : Nat) (hi : i < n * 512) :
    W.cell? ⟨g, i / 512 * 64 + i % 512 / 8, none⟩ = some (.int .u8 ((bs.getD (i / 8) 0).toNat : Int)) := by
  have hl := h.len
  have e : i / 512 * 64 + i % 512 / 8 = i / 8 := by omega
  have hj : i / 8 < bs.length := by omega
  have := World.ownsRow.cellAt h (i / 8) (by omega)
  rw [e, this, byteVals_at bs _ hj, List.getD_eq_getElem?_getD, List.getElem?_eq_getElem hj]; rfl
set_option maxRecDepth 100000 in
set_option maxHeartbeats 1000000 in
theorem bset_no (i : Int) (on1 : Bool) (A : Option Addr) (n c : Nat) (bs : List UInt8) (w : World) (h : Row w A n bs) (hn : n ≤ 1000) (hi : ¬ (0 ≤ i ∧ i < (n : Int) * 512)) :
    Calls Tryz.prog 89 #[.int .i64 i, .bool on1, .slice A n c] w fun e w' => ∃ v, e = .returned v ∧ OwnB w' w.heap.size v n bs ∧ Below w.heap.size w w' := by
  have HH := Lib.hid hi; clear hi
  have HR := Lib.hid h; clear h
  go_enter Tryz.func89, Tryz.ntmps89
  go_wp2_with (first | (go_at_call 126; refine (clone_any _ _ _ _ _ HR.out hn).mono ?_; rintro e w' ⟨v, rfl, ho, hb⟩; obtain ⟨A', c', rfl, _⟩ := OwnB.form ho) | (go_at_call 127; refine (bthere_no _ _ _ _ _ hn HH.out).mono ?_; rintro e w' ⟨rfl, rfl⟩))
  go_ret
  exact ⟨_, rfl, ho, hb⟩
set_option maxRecDepth 100000 in
set_option maxHeartbeats 1000000 in
theorem bset_yes (i : Nat) (on1 : Bool) (A : Option Addr) (n c : Nat) (bs : List UInt8) (w : World) (h : Row w A n bs) (hn : n ≤ 1000) (hi : i < n * 512) :
    Calls Tryz.prog 89 #[.int .i64 (i : Int), .bool on1, .slice A n c] w fun e w' => ∃ v, e = .returned v ∧ OwnB w' w.heap.size v n (Bt.setBit bs i on1) ∧ Below w.heap.size w w' := by
  have HR := Lib.hid h; clear h
  have hq1 : i / 512 < n := by omega
  have hq2 : i % 512 / 8 < 64 := by omega
  have hi' : i < 512000 := by omega
  obtain ⟨x, hxe0⟩ : ∃ x, bs.getD (i / 8) 0 = x := ⟨_, rfl⟩
  have hx := x.toNat_lt
  have hxe := Lib.hid hxe0; clear hxe0
  have hp := Bt.pw_lt (i % 8) (Nat.mod_lt _ (by omega))
  have HN : Hid (0 < n) := Lib.hid (by omega)
  cases on1 with
  | true =>
    have HV : Hid (bits .or .u8 (x.toNat : Int) (Bt.pw (i % 8) : Int) = ((Bt.byteSet x (i % 8) true).toNat : Int)) := Lib.hid (by rw [u8_or_nat _ _ hx hp, Bt.byteSet_on _ _ (Nat.mod_lt _ (by omega)), Bt.pw_def])
    go_enter Tryz.func89, Tryz.ntmps89
    go_wp2_with (first | (go_at_call 126; refine (clone_any _ _ _ _ _ HR.out hn).mono ?_; rintro e w' ⟨v, rfl, ho, hb⟩; obtain ⟨g, c', rfl, hg, _⟩ := World.ownsRow.form ho HN.out; have hcell := own_byte ho i hi; have hfr := World.ownsRow.frozenAt ho (i / 512 * 64 + i % 512 / 8); rw [hxe.out] at hcell; have HO := Lib.hid ho; clear ho) | (go_at_call 127; refine (bthere_yes _ _ _ _ _ hn hi).mono ?_; rintro e w' ⟨rfl, rfl⟩) | (go_at_call 128; refine (place_any _ _ hi').mono ?_; rintro e w' ⟨rfl, m, rfl⟩))
    go_region
    go_wp2
    go_ret
    have HQ := OwnB.put (HO.out.step (bbelow_drewN _ _ (m + 1))) (i / 512 * 64 + i % 512 / 8) (Bt.byteSet x (i % 8) true)
    refine ⟨_, rfl, ?_, ?_⟩
    · rw [HV.out]
      have e : i / 512 * 64 + i % 512 / 8 = i / 8 := by omega
      unfold Bt.setBit
      rw [hxe.out]
      have := HQ.1
      rw [e] at this ⊢
      exact this
    · refine (hb.trans (bbelow_drewN _ _ (m + 1))).setCell ?_ _
      exact hg
  | false =>
    have HV : Hid (bits .andNot .u8 (x.toNat : Int) (Bt.pw (i % 8) : Int) = ((Bt.byteSet x (i % 8) false).toNat : Int)) := Lib.hid (by rw [u8_andNot_nat _ _ hx hp, Bt.byteSet_off, Bt.pw_def])
    go_enter Tryz.func89, Tryz.ntmps89
    go_wp2_with (first | (go_at_call 126; refine (clone_any _ _ _ _ _ HR.out hn).mono ?_; rintro e w' ⟨v, rfl, ho, hb⟩; obtain ⟨g, c', rfl, hg, _⟩ := World.ownsRow.form ho HN.out; have hcell := own_byte ho i hi; have hfr := World.ownsRow.frozenAt ho (i / 512 * 64 + i % 512 / 8); rw [hxe.out] at hcell; have HO := Lib.hid ho; clear ho) | (go_at_call 127; refine (bthere_yes _ _ _ _ _ hn hi).mono ?_; rintro e w' ⟨rfl, rfl⟩) | (go_at_call 128; refine (place_any _ _ hi').mono ?_; rintro e w' ⟨rfl, m, rfl⟩))
    go_region
    go_wp2
    go_ret
    have HQ := OwnB.put (HO.out.step (bbelow_drewN _ _ (m + 1))) (i / 512 * 64 + i % 512 / 8) (Bt.byteSet x (i % 8) false)
    refine ⟨_, rfl, ?_, ?_⟩
    · rw [HV.out]
      have e : i / 512 * 64 + i % 512 / 8 = i / 8 := by omega
      unfold Bt.setBit
      rw [hxe.out]
      have := HQ.1
      rw [e] at this ⊢
      exact this
    · refine (hb.trans (bbelow_drewN _ _ (m + 1))).setCell ?_ _
      exact hg
set_option maxRecDepth 100000 in
theorem bset_any (i : Int) (on1 : Bool) (A : Option Addr) (n c : Nat) (bs : List UInt8) (w : World) (h : Row w A n bs) (hn : n ≤ 1000) :
    Calls Tryz.prog 89 #[.int .i64 i, .bool on1, .slice A n c] w fun e w' => ∃ v, e = .returned v ∧ OwnB w' w.heap.size v n (Bt.setB bs i on1) ∧ Below w.heap.size w w' := by
  have hl := h.len
  by_cases hi : 0 ≤ i ∧ i < (n : Int) * 512
  · obtain ⟨k, rfl⟩ := Int.eq_ofNat_of_zero_le hi.1
    rw [Bt.setB_nat bs k on1 (by omega)]
    exact bset_yes k on1 A n c bs w h hn (by omega)
  · rw [Bt.setB_no bs i on1 (by omega)]
    exact bset_no i on1 A n c bs w h hn hi
end Go.Proofs.YtncmihikpcdgoaaGreat

namespace Go.Proofs.YtncmihikpcdgoaaGreat
open Go.RowKit Go.Maps
open Dk (zeros zeros_length)
open Ii (Ino)
theorem set_box (w : World) (x : Ino) : Lo [] w [(w.heap.size, inoL x)] (w.alloc (.cells (inoL x).toArray 31)) :=
  (Lo.start w (by simp)).alloc _ rfl (inoL x) _
set_option maxRecDepth 100000 in
set_option maxHeartbeats 2000000 in
theorem sset_step {w : World} {B : Nat} {b : Blk} {s : Sto} {n I : Int} (h : Ctx w B b s n I) (i : Int) (x : Ino) (h1 : 1 ≤ i) (h2 : i ≤ I) : Calls Tryz.prog 45 #[.pointer (some ⟨B, 0, none⟩), .int .i64 i, inoV x] w (Ends B b n I [] w s (Fs.setI i x) fun _ e _ => e = .returned (.tuple #[])) := by
  refine calls_of fun R H => ?_
  have S := Lib.hid (set_box w x)
  obtain ⟨k1, k2⟩ := tbl_ok h.vs h1 h2
  obtain ⟨r1, r2, r3⟩ := h.vs.read k1
  rw [k2] at r1 r3
  have HB : Hid (∀ W l, Lo [] w l W → RowAt W B (stepL b.s n I true 0)) := Lib.hid (fun W l hl => (Lo.ctx (L := []) hl h).step)
  have HP : Hid (∀ w, Calls Tryz.prog 86 #[planV n I, .int .i64 i] w fun e w' => e = .returned (.tuple #[.int .i64 (43 + (i - 1) / 2), .int .i64 ((i - 1) % 2)]) ∧ Below w.heap.size w w') := Lib.hid (fun w => place_yes n I i w h.vs.pl h1 h2)
  have HG : Hid (∀ W l, Lo [] w l W → Calls Tryz.prog 87 #[.pointer (some ⟨B, 0, none⟩), .int .i64 (43 + (i - 1) / 2)] W fun e w' => e = .returned (pageV (nv s (Fs.tbl i))) ∧ Below W.heap.size W w') := Lib.hid (fun W l hl => by
    have := spage_any (Lo.ctx (L := []) hl h) (43 + (i - 1) / 2) k1
    rw [k2] at this
    exact this)
  have HI : Hid (∀ w, Calls Tryz.prog 88 #[pageV (nv s (Fs.tbl i)), .int .i64 ((i - 1) % 2), .agg (inoL x).toArray] w fun e w' => e = .returned (pageV (Ii.putN (nv s (Fs.tbl i)) (Fs.halfAt i) x)) ∧ Below w.heap.size w w') := Lib.hid (fun w => iput_any (nv s (Fs.tbl i)) i x w r3)
  have hql := Ii.putN_length (nv s (Fs.tbl i)) (Fs.halfAt i) x r3 (by unfold Fs.halfAt; omega)
  have HS : Hid (∀ W l, Lo [] w l W → Calls Tryz.prog 53 #[.pointer (some ⟨B, 0, none⟩), .int .i64 (43 + (i - 1) / 2), pageV (Ii.putN (nv s (Fs.tbl i)) (Fs.halfAt i) x)] W (Ends B b n I [] W s (Fs.wr (Fs.tbl i) (Ii.putN (nv s (Fs.tbl i)) (Fs.halfAt i) x)) fun _ e _ => e = .returned (.tuple #[]))) := Lib.hid (fun W l hl => by
    have := sput_step (Lo.ctx (L := []) hl h) (43 + (i - 1) / 2) (Ii.putN (nv s (Fs.tbl i)) (Fs.halfAt i) x) k1 (hql)
    rw [k2] at this
    exact this)
  have HL := Lib.hid r3
  have HQ := Lib.hid hql
  have HC := Lib.hid h
  by_cases c : Ii.putN (nv s (Fs.tbl i)) (Fs.halfAt i) x = nv s (Fs.tbl i)
  · have HE : Hid (∀ W l, Lo [] w l W → R (.returned (.tuple #[])) W) := Lib.hid (fun W l hl => H.out _ _ (by
      have C := Lo.ctx (L := []) hl HC.out
      have e : Fs.setI i x (nv s) = Fs.ret () (nv s) := by unfold Fs.setI; rw [if_pos c]
      exact Or.inl ⟨(), s, [], e, Goes.refl s, C, rfl, hl.only.mono (by simp)⟩))
    rw [c] at HI
    clear h r1 r2 r3 k1 k2 h1 h2 hql HS HC c H
    generalize (43 + (i - 1) / 2 : Int) = at1 at HP HG
    generalize nv s (Fs.tbl i) = p at HG HI HL
    clear HQ
    have E1 : ∀ (w : World), (binOp .neq 68 (pageV p) (pageV p)).run Tryz.prog w = .ok (.bool false) w := fun w => run_neq_same w p HL.out
    have E0 : ∀ (w : World) (x y : Operand), (eqGuard .neq 68 x y (pageV p) (pageV p)).run Tryz.prog w = .ok () w := fun w x y => run_neGuard_page w x y p p
    unfold inoV
    go_enter Tryz.func45, Tryz.ntmps45
    go_wp2_with (first
      | (with_reducible refine wpList_load_plan (HB.out _ _ S.out).plan rfl (.tmp 14) rfl rfl ?_)
      | (go_at_call 86; (with_reducible refine (HP.out _).mono ?_); rintro e w1 ⟨rfl, hb⟩; replace S := Lib.hid (S.out.below hb); clear hb)
      | (go_at_call 87; refine (HG.out _ _ S.out).mono ?_; rintro e w1 ⟨rfl, hb⟩; replace S := Lib.hid (S.out.below hb); clear hb)
      | ((with_reducible refine wpList_store_new rfl (.tmp 8) (.tmp 22) rfl rfl ?_ ?_ HL.out ?_); (exact rfl); (exact rfl); intro W2 hP hB2 hz2; replace S := Lib.hid (S.out.made hP.rowAt hB2 hz2); clear hP hB2 hz2)
      | (with_reducible refine wpList_load_page (S.out.page 1 rfl HL.out) rfl (.tmp 8) rfl rfl ?_)
      | (with_reducible refine wpList_load_rw inoT (S.out.get 0 _ rfl) rfl rfl (.tmp 5) rfl rfl ?_)
      | (go_at_call 88; (with_reducible refine (HI.out _).mono ?_); rintro e w1 ⟨rfl, hb⟩; replace S := Lib.hid (S.out.below hb); clear hb)
      | ((with_reducible refine wpList_store_new rfl (.tmp 9) (.tmp 26) rfl rfl ?_ ?_ HL.out ?_); (exact rfl); (exact rfl); intro W2 hP hB2 hz2; replace S := Lib.hid (S.out.made hP.rowAt hB2 hz2); clear hP hB2 hz2)
      | (with_reducible refine wpList_load_page (S.out.page 2 rfl HL.out) rfl (.tmp 9) rfl rfl ?_))
    go_end0
    exact HE.out _ _ S.out
  · have HE : Hid (∀ W l, Lo [] w l W → Calls Tryz.prog 53 #[.pointer (some ⟨B, 0, none⟩), .int .i64 (43 + (i - 1) / 2), pageV (Ii.putN (nv s (Fs.tbl i)) (Fs.halfAt i) x)] W fun e w' => (e = .panicked [failE B] ∧ R (.panicked [failE B]) w') ∨ (e = .returned (.tuple #[]) ∧ R (.returned (.tuple #[])) w')) := Lib.hid (fun W l hl => (HS.out W l hl).mono fun e w' hE => Ends.unit H (Ends.later (hl.only.mono (by simp)) (Ends.same (by unfold Fs.setI; rw [if_neg c]) hE)))
    clear h r1 r2 r3 k1 k2 h1 h2 hql HS HC H
    generalize (43 + (i - 1) / 2 : Int) = at1 at HP HG HE
    generalize Ii.putN (nv s (Fs.tbl i)) (Fs.halfAt i) x = q at HI HE HQ c
    generalize nv s (Fs.tbl i) = p at HG HI HL c
    have E1 : ∀ (w : World), (binOp .neq 68 (pageV q) (pageV p)).run Tryz.prog w = .ok (.bool true) w := fun w => run_neq_not w q p HQ.out HL.out c
    clear c
    have E0 : ∀ (w : World) (x y : Operand), (eqGuard .neq 68 x y (pageV q) (pageV p)).run Tryz.prog w = .ok () w := fun w x y => run_neGuard_page w x y q p
    unfold inoV
    go_enter Tryz.func45, Tryz.ntmps45
    go_wp2_with (first
      | (with_reducible refine wpList_load_plan (HB.out _ _ S.out).plan rfl (.tmp 14) rfl rfl ?_)
      | (go_at_call 86; (with_reducible refine (HP.out _).mono ?_); rintro e w1 ⟨rfl, hb⟩; replace S := Lib.hid (S.out.below hb); clear hb)
      | (go_at_call 87; refine (HG.out _ _ S.out).mono ?_; rintro e w1 ⟨rfl, hb⟩; replace S := Lib.hid (S.out.below hb); clear hb)
      | ((with_reducible refine wpList_store_new rfl (.tmp 8) (.tmp 22) rfl rfl ?_ ?_ HL.out ?_); (exact rfl); (exact rfl); intro W2 hP hB2 hz2; replace S := Lib.hid (S.out.made hP.rowAt hB2 hz2); clear hP hB2 hz2)
      | (with_reducible refine wpList_load_page (S.out.page 1 rfl HL.out) rfl (.tmp 8) rfl rfl ?_)
      | (with_reducible refine wpList_load_rw inoT (S.out.get 0 _ rfl) rfl rfl (.tmp 5) rfl rfl ?_)
      | (go_at_call 88; (with_reducible refine (HI.out _).mono ?_); rintro e w1 ⟨rfl, hb⟩; replace S := Lib.hid (S.out.below hb); clear hb)
      | ((with_reducible refine wpList_store_new rfl (.tmp 9) (.tmp 26) rfl rfl ?_ ?_ HQ.out ?_); (exact rfl); (exact rfl); intro W2 hP hB2 hz2; replace S := Lib.hid (S.out.made hP.rowAt hB2 hz2); clear hP hB2 hz2)
      | (with_reducible refine wpList_load_page (S.out.page 2 rfl HQ.out) rfl (.tmp 9) rfl rfl ?_)
      | (go_at_call 53; refine (HE.out _ _ S.out).mono ?_; rintro e w1 (⟨rfl, hR⟩ | ⟨rfl, hR⟩); (exact ⟨rfl, hR⟩)))
    go_end0
    exact hR
theorem fold_zip {α : Type} : ∀ (l : List α) (k : Nat) (zs : Array α), k + l.length ≤ zs.size → List.foldl (fun (cs : Array α) x => cs.setIfInBounds x.2 x.1) zs (l.zipIdx k) = (zs.toList.take k ++ l ++ zs.toList.drop (k + l.length)).toArray
  | [], k, zs, _ => by simp
  | x :: l, k, zs, h => by
    rw [List.length_cons] at h
    rw [List.zipIdx_cons, List.foldl_cons, fold_zip l (k + 1) _ (by simp; omega)]
    apply Array.ext'
    have hk : k < zs.toList.length := by simp; omega
    simp only [Array.toList_setIfInBounds]
    have e1 : (zs.toList.set k x).take (k + 1) = zs.toList.take k ++ [x] := by
      rw [List.take_set, List.take_succ_eq_append_getElem hk, List.set_append_right _ _ (by simp; omega)]
      have : k - (List.take k zs.toList).length = 0 := by simp; omega
      rw [this]; rfl
    have e2 : (zs.toList.set k x).drop (k + 1 + l.length) = zs.toList.drop (k + (l.length + 1)) := by
      rw [List.drop_set_of_lt (by omega)]
      congr 1; omega
    rw [e1, e2]
    simp
theorem fold_page {zs : Array Value} {p : List UInt8} (h : zs.size = 64) (hp : p.length = 64) : List.foldl (fun (cs : Array Value) x => cs.setIfInBounds x.2 x.1) zs (byteVals p).zipIdx = (byteVals p).toArray := by
  rw [fold_zip _ 0 _ (by rw [byteVals_length, hp, h]; exact Nat.le_refl _)]
  rw [List.take_zero, List.nil_append, List.drop_of_length_le (by rw [byteVals_length, hp, ← h]; simp), List.append_nil]
theorem row_of_page {W : World} {g : Nat} {p : List UInt8} (h : PageAt W g p) (hg : g < W.heap.size) : Row W (some ⟨g, 0, none⟩) 1 p := by
  refine ⟨h.len, by unfold maxLen; omega, fun q => (by cases q), fun _ => ⟨g, 0, rfl, hg, fun j hj => ?_⟩⟩
  have hj' : j < p.length := by rw [h.len]; exact hj
  have := h.range j (.int .u8 ((p.getD j 0).toNat : Int)) (by rw [byteVals_at p j hj', List.getD_eq_getElem?_getD, List.getElem?_eq_getElem hj']; rfl)
  exact this
theorem row_own {W : World} {base : Nat} {v : Value} {p : List UInt8} (h : OwnB W base v 1 p) : ∃ g c, v = .slice (some ⟨g, 0, none⟩) 1 c ∧ base ≤ g ∧ g < W.heap.size ∧ W.rangeAt g 0 (byteVals p) := by
  obtain ⟨A, cap, rfl, hR, hA, _⟩ := h.form
  obtain ⟨b, off, rfl, hlt, hc⟩ := hR.cells (by decide)
  obtain ⟨h1, rfl⟩ := hA b off rfl
  refine ⟨b, cap, rfl, h1, hlt, fun j v hv => ?_⟩
  have hl := hR.len
  obtain ⟨hj, hv⟩ := List.getElem?_eq_some_iff.1 hv
  rw [byteVals_length] at hj
  have := hc j (by omega)
  rw [this, ← hv]
  have e := byteVals_at p j hj
  rw [List.getElem?_eq_getElem (by rw [byteVals_length]; exact hj)] at e
  injection e with e
  rw [e, List.getD_eq_getElem?_getD, List.getElem?_eq_getElem hj]; rfl
set_option maxRecDepth 100000 in
set_option maxHeartbeats 2000000 in
theorem smark_step {w : World} {B : Nat} {b : Blk} {s : Sto} {n I : Int} (h : Ctx w B b s n I) (at1 bit : Int) (on1 : Bool) (ha : okP n at1) : Calls Tryz.prog 46 #[.pointer (some ⟨B, 0, none⟩), .int .i64 at1, .int .i64 bit, .bool on1] w (Ends B b n I [] w s (Fs.markM at1.toNat bit on1) fun _ e _ => e = .returned (.tuple #[])) := by
  refine calls_of fun R H => ?_
  obtain ⟨r1, r2, r3⟩ := h.vs.read ha
  have HL := Lib.hid r3
  have HQ : Hid ((Bt.setB (nv s at1.toNat) bit on1).length = 64) := Lib.hid (by rw [Bt.setB_length]; exact r3)
  have HG : Hid (∀ W l, Lo [] w l W → Calls Tryz.prog 87 #[.pointer (some ⟨B, 0, none⟩), .int .i64 at1] W fun e w' => e = .returned (.agg (byteVals (nv s at1.toNat)).toArray) ∧ Below W.heap.size W w') := Lib.hid (fun W l hl => spage_any (Lo.ctx (L := []) hl h) at1 ha)
  have HE : Hid (∀ W l, Lo [] w l W → Calls Tryz.prog 53 #[.pointer (some ⟨B, 0, none⟩), .int .i64 at1, pageV (Bt.setB (nv s at1.toNat) bit on1)] W fun e w' => (e = .panicked [failE B] ∧ R (.panicked [failE B]) w') ∨ (e = .returned (.tuple #[]) ∧ R (.returned (.tuple #[])) w')) := Lib.hid (fun W l hl => (sput_step (Lo.ctx (L := []) hl h) at1 (Bt.setB (nv s at1.toNat) bit on1) ha HQ.out).mono fun e w' hE => Ends.unit H (Ends.later (hl.only.mono (by simp)) (Ends.same rfl hE)))
  have S := Lib.hid (Lo.start (L := []) w (by simp))
  clear h H r1 r2 r3 ha
  generalize hq : Bt.setB (nv s at1.toNat) bit on1 = q at HE HQ
  generalize nv s at1.toNat = p at HG HL hq
  have HQE := Lib.hid hq
  clear hq
  have hbl : (byteVals p).length = 64 := by rw [byteVals_length]; exact HL.out
  go_enter Tryz.func46, Tryz.ntmps46
  go_wp2_with (first
    | (go_at_call 87; refine (HG.out _ _ S.out).mono ?_; rintro e w1 ⟨rfl, hb⟩; replace S := Lib.hid (S.out.below hb); clear hb))
  rw [fold_page rfl HL.out]
  generalize hw : World.alloc _ _ = w2
  have S2 : Hid (Lo [] w [(w1.heap.size, byteVals p)] w2) := Lib.hid (by rw [← hw]; exact S.out.alloc _ rfl (byteVals p) _)
  have HSZ : Hid (w.heap.size ≤ w2.heap.size) := Lib.hid S2.out.only.size
  clear hw S
  have HBS : Hid (Calls Tryz.prog 89 #[.int .i64 bit, .bool on1, .slice (some ⟨w1.heap.size, 0, none⟩) 1 1] w2 fun e w' => ∃ v, e = .returned v ∧ OwnB w' w2.heap.size v 1 q ∧ Below w2.heap.size w2 w') := Lib.hid (by
    have := bset_any bit on1 (some ⟨w1.heap.size, 0, none⟩) 1 1 p w2 (row_of_page (S2.out.page 0 rfl HL.out) (S2.out.lt 0 _ rfl)) (by omega)
    rw [HQE.out] at this
    exact this)
  go_wp2_with (first
    | (go_at_call 89; (with_reducible refine HBS.out.mono ?_); rintro e w3 ⟨v, rfl, ho, hb⟩; obtain ⟨g, c, rfl, hg1, hg2, hgr⟩ := row_own ho; have S3 := Lib.hid (S2.out.below hb); have HGR := Lib.hid hgr; clear ho hb hgr)
    | (with_reducible refine wpList_load_mid rfl 68 (.tmp 17) rfl g 0 rfl (byteVals q) _ HGR.out Tryz.underlying68 rfl (by rw [page_info, byteVals_length, HQ.out]) ?_)
    | (go_at_call 53; refine (HE.out _ _ S3.out).mono ?_; rintro e w1 (⟨rfl, hR⟩ | ⟨rfl, hR⟩); (exact ⟨rfl, hR⟩)))
  go_end0
  exact hR
end Go.Proofs.YtncmihikpcdgoaaGreat

namespace Go.Proofs.YtncmihikpcdgoaaGreat
open Dk (zeros zeros_length)
open Go.RowKit
open Ii (Ino)
set_option maxRecDepth 100000 in
set_option maxHeartbeats 1000000 in
theorem iright_no (p i : Int) (x : Ino) (w : World) (h : Pl.rightB p i = false) :
    Calls Tryz.prog 84 #[inoV x, planV p i] w fun e w' => e = .returned (.bool false) ∧ Below w.heap.size w w' := by
  have HR : Hid (∀ w, Calls Tryz.prog 67 #[.agg #[.int .i64 p, .int .i64 i]] w fun e w' => e = .returned (.int .i64 0) ∧ Below w.heap.size w w') := Lib.hid (fun w => plRoom_no p i w h)
  have HS := Lib.hid (nrS_box w x (planL p i) 31 63)
  clear h
  unfold inoV planV
  go_enter Tryz.func84, Tryz.ntmps84
  go_wp2_with fail
  generalize hw : (w.alloc _).alloc _ = w1
  have S : Hid (NrS w x (planL p i) w1) := Lib.hid (by rw [← hw]; exact HS.out)
  clear hw HS
  go_wp2_with (first
    | (with_reducible refine wpList_load_rw planT S.out.plan rfl rfl (.tmp 3) rfl rfl ?_)
    | (go_at_call 67; (with_reducible refine (HR.out _).mono ?_); rintro e w' ⟨rfl, hb⟩; replace S := Lib.hid (S.out.call hb); clear hb))
  go_ret
  exact ⟨rfl, S.out.below⟩
set_option maxRecDepth 100000 in
set_option maxHeartbeats 1000000 in
theorem iright_zero (p i : Int) (x : Ino) (w : World) (h : Pl.rightB p i = true) (hk : x.k = 0) :
    Calls Tryz.prog 84 #[inoV x, planV p i] w fun e w' => e = .returned (.bool (Ii.zeroB x)) ∧ Below w.heap.size w w' := by
  obtain ⟨r1, r2, r3, r4⟩ := Pl.right_yes h
  have HR : Hid (∀ w, Calls Tryz.prog 67 #[.agg #[.int .i64 p, .int .i64 i]] w fun e w' => e = .returned (.int .i64 (p - Pl.dataN i)) ∧ Below w.heap.size w w') := Lib.hid (fun w => plRoom_yes p i w h)
  have HS := Lib.hid (nrS_box w x (planL p i) 31 63)
  have g0 : ((p - Pl.dataN i) == 0) = false := by rw [beq_eq_false_iff_ne]; omega
  have g1 : (x.k == 0) = true := by simpa using hk
  have E1 : ∀ (a b : Operand) (w : World), (eqGuard .eql 31 a b (.agg (inoL x).toArray) (.agg #[.int .i64 0, .int .i64 0, .int .i64 0, .int .i64 0, .int .i64 0, .int .i64 0, .int .i64 0, .int .i64 0, .int .i64 0, .int .i64 0, .int .i64 0])).run Tryz.prog w = .ok () w := fun a b w => run_eqGuard_ino w a b x Ii.zero
  have E2 : ∀ (w : World), (binOp .eql 31 (.agg (inoL x).toArray) (.agg #[.int .i64 0, .int .i64 0, .int .i64 0, .int .i64 0, .int .i64 0, .int .i64 0, .int .i64 0, .int .i64 0, .int .i64 0, .int .i64 0, .int .i64 0])).run Tryz.prog w = .ok (.bool (Ii.zeroB x)) w := fun w => run_zero_ino w x
  clear h hk r1 r2 r3 r4
  generalize p - Pl.dataN i = r at HR g0
  unfold inoV planV
  go_enter Tryz.func84, Tryz.ntmps84
  go_wp2_with fail
  generalize hw : (w.alloc _).alloc _ = w1
  have S : Hid (NrS w x (planL p i) w1) := Lib.hid (by rw [← hw]; exact HS.out)
  clear hw HS
  go_wp2_with (first
    | (with_reducible refine wpList_load_rw planT S.out.plan rfl rfl (.tmp 3) rfl rfl ?_)
    | (with_reducible refine wpList_load_rw inoT S.out.ino rfl rfl (.tmp 2) rfl rfl ?_)
    | (go_at_call 67; (with_reducible refine (HR.out _).mono ?_); rintro e w' ⟨rfl, hb⟩; replace S := Lib.hid (S.out.call hb); have hc0 := S.out.ino.cell 0 _ rfl; clear hb))
  go_ret
  exact ⟨rfl, S.out.below⟩
set_option maxRecDepth 100000 in
set_option maxHeartbeats 2000000 in
theorem iright_some (p i : Int) (x : Ino) (w : World) (h : Pl.rightB p i = true) (hk : x.k = 1 ∨ x.k = 2 ∨ x.k = 3) :
    Calls Tryz.prog 84 #[inoV x, planV p i] w fun e w' => e = .returned (.bool (Ii.cntB x && Ii.numsB p i x)) ∧ Below w.heap.size w w' := by
  obtain ⟨r1, r2, r3, r4⟩ := Pl.right_yes h
  have HR : Hid (∀ w, Calls Tryz.prog 67 #[.agg #[.int .i64 p, .int .i64 i]] w fun e w' => e = .returned (.int .i64 (p - Pl.dataN i)) ∧ Below w.heap.size w w') := Lib.hid (fun w => plRoom_yes p i w h)
  have HC : Hid (∀ w, Calls Tryz.prog 123 #[.agg (inoL x).toArray] w fun e w' => e = .returned (.bool (Ii.cntB x)) ∧ Below w.heap.size w w') := Lib.hid (fun w => counts_any x w)
  have HN : Hid (∀ w, Calls Tryz.prog 124 #[.agg #[.int .i64 x.k, .int .i64 x.p, .int .i64 x.u, .int .i64 x.l, .int .i64 x.s, .int .i64 x.a, .int .i64 x.b, .int .i64 x.c, .int .i64 x.d, .int .i64 x.e, .int .i64 x.f], .agg #[.int .i64 p, .int .i64 i]] w fun e w' => e = .returned (.bool (Ii.numsB p i x)) ∧ Below w.heap.size w w') := Lib.hid (fun w => numbers_any p i x w h)
  have HS := Lib.hid (nrS_box w x (planL p i) 31 63)
  have g0 : ((p - Pl.dataN i) == 0) = false := by rw [beq_eq_false_iff_ne]; omega
  have gk : (x.k == 0) = false := by rw [beq_eq_false_iff_ne]; omega
  have hk : (x.k == 1) = true ∨ ((x.k == 1) = false ∧ (x.k == 2) = true) ∨ ((x.k == 1) = false ∧ (x.k == 2) = false ∧ (x.k == 3) = true) := by
    simp only [beq_eq_false_iff_ne, beq_iff_eq]
    omega
  clear h r1 r2 r3 r4
  generalize p - Pl.dataN i = r at HR g0
  obtain ⟨b2, HE2⟩ : ∃ b, Hid (b = Ii.numsB p i x) := ⟨_, Lib.hid rfl⟩
  rw [← HE2.out] at HN ⊢
  clear HE2
  cases hb1 : Ii.cntB x
  all_goals
    rw [hb1] at HC
    simp only [Bool.false_and, Bool.true_and]
    clear hb1
    unfold inoV planV
    rcases hk with g1 | ⟨g1, g2⟩ | ⟨g1, g2, g3⟩
  all_goals
    go_enter Tryz.func84, Tryz.ntmps84
    go_wp2_with fail
    generalize hw : (w.alloc _).alloc _ = w1
    have S : Hid (NrS w x (planL p i) w1) := Lib.hid (by rw [← hw]; exact HS.out)
    clear hw HS
    go_wp2_with (first
      | (with_reducible refine wpList_load_rw planT S.out.plan rfl rfl (.tmp 3) rfl rfl ?_)
      | (with_reducible refine wpList_load_rw inoT S.out.ino rfl rfl (.tmp 2) rfl rfl ?_)
      | (go_at_call 67; (with_reducible refine (HR.out _).mono ?_); rintro e w' ⟨rfl, hb⟩; replace S := Lib.hid (S.out.call hb); have hc0 := S.out.ino.cell 0 _ rfl; clear hb)
      | (go_at_call 123; (with_reducible refine (HC.out _).mono ?_); rintro e w' ⟨rfl, hb⟩; clear hc0; replace S := Lib.hid (S.out.call hb); clear hb; have i0 := S.out.ino.cell 0 _ rfl; have i1 := S.out.ino.cell 1 _ rfl; have i2 := S.out.ino.cell 2 _ rfl; have i3 := S.out.ino.cell 3 _ rfl; have i4 := S.out.ino.cell 4 _ rfl; have i5 := S.out.ino.cell 5 _ rfl; have i6 := S.out.ino.cell 6 _ rfl; have i7 := S.out.ino.cell 7 _ rfl; have i8 := S.out.ino.cell 8 _ rfl; have i9 := S.out.ino.cell 9 _ rfl; have i10 := S.out.ino.cell 10 _ rfl; have j0 := S.out.plan.cell 0 _ rfl; have j1 := S.out.plan.cell 1 _ rfl)
      | (go_at_call 124; (with_reducible refine (HN.out _).mono ?_); rintro e w' ⟨rfl, hb⟩; clear i0 i1 i2 i3 i4 i5 i6 i7 i8 i9 i10 j0 j1; replace S := Lib.hid (S.out.call hb); clear hb))
    go_ret
    exact ⟨rfl, S.out.below⟩
set_option maxRecDepth 100000 in
set_option maxHeartbeats 1000000 in
theorem iright_else (p i : Int) (x : Ino) (w : World) (h : Pl.rightB p i = true) (hk : x.k < 0 ∨ 3 < x.k) :
    Calls Tryz.prog 84 #[inoV x, planV p i] w fun e w' => e = .returned (.bool false) ∧ Below w.heap.size w w' := by
  obtain ⟨r1, r2, r3, r4⟩ := Pl.right_yes h
  have HR : Hid (∀ w, Calls Tryz.prog 67 #[.agg #[.int .i64 p, .int .i64 i]] w fun e w' => e = .returned (.int .i64 (p - Pl.dataN i)) ∧ Below w.heap.size w w') := Lib.hid (fun w => plRoom_yes p i w h)
  have HS := Lib.hid (nrS_box w x (planL p i) 31 63)
  have g0 : ((p - Pl.dataN i) == 0) = false := by rw [beq_eq_false_iff_ne]; omega
  have gk : (x.k == 0) = false := by rw [beq_eq_false_iff_ne]; omega
  have g1 : (x.k == 1) = false := by rw [beq_eq_false_iff_ne]; omega
  have g2 : (x.k == 2) = false := by rw [beq_eq_false_iff_ne]; omega
  have g3 : (x.k == 3) = false := by rw [beq_eq_false_iff_ne]; omega
  clear h r1 r2 r3 r4 hk
  generalize p - Pl.dataN i = r at HR g0
  unfold inoV planV
  go_enter Tryz.func84, Tryz.ntmps84
  go_wp2_with fail
  generalize hw : (w.alloc _).alloc _ = w1
  have S : Hid (NrS w x (planL p i) w1) := Lib.hid (by rw [← hw]; exact HS.out)
  clear hw HS
  go_wp2_with (first
    | (with_reducible refine wpList_load_rw planT S.out.plan rfl rfl (.tmp 3) rfl rfl ?_)
    | (go_at_call 67; (with_reducible refine (HR.out _).mono ?_); rintro e w' ⟨rfl, hb⟩; replace S := Lib.hid (S.out.call hb); have hc0 := S.out.ino.cell 0 _ rfl; clear hb))
  go_ret
  exact ⟨rfl, S.out.below⟩
set_option maxRecDepth 100000 in
theorem iright_any (p i : Int) (x : Ino) (w : World) :
    Calls Tryz.prog 84 #[inoV x, planV p i] w fun e w' => e = .returned (.bool (Ii.rightI p i x)) ∧ Below w.heap.size w w' := by
  unfold Ii.rightI Ii.inB
  cases h : Pl.rightB p i with
  | false => exact iright_no p i x w h
  | true =>
    rw [Bool.true_and]
    by_cases k0 : x.k = 0
    · rw [if_pos k0]; exact iright_zero p i x w h k0
    · rw [if_neg k0]
      by_cases k1 : 1 ≤ x.k ∧ x.k ≤ 3
      · rw [decide_eq_true k1, Bool.true_and]; exact iright_some p i x w h (by omega)
      · rw [decide_eq_false k1, Bool.false_and]; exact iright_else p i x w h (by omega)
end Go.Proofs.YtncmihikpcdgoaaGreat

namespace Go.Proofs.YtncmihikpcdgoaaGreat
open Go.RowKit Go.Maps
open Dk (zeros zeros_length)
open Ii (Ino)
theorem list_part {α : Type} (us : List α) (k m : Nat) (v : α) (hk : k < us.length) : (us.set k v).take (k + 1) = us.take k ++ [v] ∧ (us.set k v).drop (k + 1 + m) = us.drop (k + (m + 1)) := by
  refine ⟨?_, ?_⟩
  · rw [List.take_set, List.take_succ_eq_append_getElem hk, List.set_append_right _ _ (by simp; omega)]
    have : k - (List.take k us).length = 0 := by simp; omega
    rw [this]; rfl
  · rw [List.drop_set_of_lt (by omega)]
    congr 1; omega
theorem RowAt.part {b : Nat} : ∀ (vs : List Value) (w : World) (us : List Value) (k : Nat), RowAt w b us → k + vs.length ≤ us.length → RowAt (w.setCells b k vs) b (us.take k ++ vs ++ us.drop (k + vs.length))
  | [], w, us, k, h, _ => by
    have e : us.take k ++ [] ++ us.drop (k + 0) = us := by simp
    show RowAt w b (us.take k ++ [] ++ us.drop (k + 0))
    rw [e]; exact h
  | v :: vs, w, us, k, h, hk => by
    rw [List.length_cons] at hk
    obtain ⟨e1, e2⟩ := list_part us k vs.length v (by omega)
    have := RowAt.part vs (w.setCell ⟨b, k, none⟩ v) (us.set k v) (k + 1) (h.setOne k v (by omega)) (by rw [List.length_set]; omega)
    rw [e1, e2] at this
    have e : us.take k ++ v :: vs ++ us.drop (k + (v :: vs).length) = us.take k ++ [v] ++ vs ++ us.drop (k + (vs.length + 1)) := by simp
    rw [e]
    exact this
/-- a part of a row is written -/
theorem Lo.putAt {L : List Nat} {w0 w : World} {l : List (Nat × List Value)} (h : Lo L w0 l w) (k : Nat) (x : Nat × List Value) (hx : l[k]? = some x) (o : Nat) (vs us : List Value) (ho : o + vs.length ≤ x.2.length) (hu : us = x.2.take o ++ vs ++ x.2.drop (o + vs.length)) : Lo L w0 (l.set k (x.1, us)) (w.setCells x.1 o vs) where
  row := fun y hy => by
    obtain ⟨hk, hke⟩ := List.getElem?_eq_some_iff.1 hx
    obtain ⟨j, hj, rfl⟩ := List.getElem_of_mem hy
    rw [List.length_set] at hj
    rw [List.getElem_set, heap_setCells]
    by_cases e : k = j
    · subst e
      rw [if_pos rfl]
      obtain ⟨h1, h2, h3⟩ := h.row x (List.mem_of_getElem? hx)
      exact ⟨by rw [hu]; exact RowAt.part vs w x.2 o h1 ho, h2, h3⟩
    · rw [if_neg e]
      obtain ⟨h1, h2, h3⟩ := h.row l[j] (List.getElem_mem hj)
      refine ⟨h1.put_other _ _ _ (fun q => ?_), h2, h3⟩
      have hn := List.pairwise_iff_getElem.1 h.ne
      have e1 : (l.map (·.1))[k]'(by simpa using hk) = (l.map (·.1))[j]'(by simpa using hj) := by
        simp only [List.getElem_map]
        rw [hke]; exact q.symm
      rcases Nat.lt_or_ge k j with c | c
      · exact absurd e1 (hn k j _ _ c)
      · exact absurd e1.symm (hn j k _ _ (by omega))
  ne := by
    obtain ⟨hk, hke⟩ := List.getElem?_eq_some_iff.1 hx
    have : (l.set k (x.1, us)).map (·.1) = l.map (·.1) := by
      rw [List.map_set]
      apply List.ext_getElem
      · simp
      · intro j h1 h2
        rw [List.getElem_set]
        split
        · rename_i e; subst e; simp [hke]
        · rfl
    rw [this]; exact h.ne
  only := by
    obtain ⟨h1, h2, h3⟩ := h.row x (List.mem_of_getElem? hx)
    exact h.only.via ((Only.refl [x.1] w).setCells x.1 (by simp) vs o w) (fun i hi => by rw [List.mem_singleton] at hi; subst hi; exact Or.inr h2)
  low := h.low
set_option maxRecDepth 100000 in
theorem gives_store_cell {o : Oper} {a : Act} {w : World} {b k : Nat} {us : List Value} {R : Value → World → Prop} {v : Int} (h : RowAt w b us) (hk : k < us.length) (x y : Operand) (ho : o.op = .store 3 x y) (hx : a.eval x = .pointer (some ⟨b, k, none⟩)) (hy : a.eval y = .int .i64 v)
    (hR : R undef (w.setCell ⟨b, k, none⟩ (.int .i64 v))) : Gives Tryz.prog (execOp a.eval o) w R := by
  have hc := h.cell k _ (List.getElem?_eq_getElem hk)
  have hf := h.frozen k hk
  have hrun : (execOp a.eval o).run Tryz.prog w = .ok .skip (w.setCell ⟨b, k, none⟩ (.int .i64 v)) ∨ (execOp a.eval o).run Tryz.prog w = .ok (.value undef) (w.setCell ⟨b, k, none⟩ (.int .i64 v)) := by
    unfold execOp
    simp only [ho, hx, hy]
    go_simp
  unfold Gives
  rcases hrun with h | h <;> (rw [h]; exact hR)
set_option maxRecDepth 100000 in
theorem gives_store_four {o : Oper} {a : Act} {w : World} {b k : Nat} {us : List Value} {R : Value → World → Prop} {v1 v2 v3 v4 : Int} (h : RowAt w b us) (hk : k + 4 ≤ us.length) (x y : Operand) (ho : o.op = .store 29 x y) (hx : a.eval x = .pointer (some ⟨b, k, none⟩)) (hy : a.eval y = .agg #[.int .i64 v1, .int .i64 v2, .int .i64 v3, .int .i64 v4])
    (hR : R undef (w.setCells b k [.int .i64 v1, .int .i64 v2, .int .i64 v3, .int .i64 v4])) : Gives Tryz.prog (execOp a.eval o) w R := by
  have hs := run_storeVar_mid (P := Tryz.prog) w b k 29 #[.int .i64 v1, .int .i64 v2, .int .i64 v3, .int .i64 v4] (fun i hi => by
    have := h.free (k + i) (by have : i < 4 := hi; omega)
    rwa [Nat.zero_add] at this) (by kernel_rfl) (by kernel_rfl)
  have hrun : (execOp a.eval o).run Tryz.prog w = .ok .skip (w.setCells b k [.int .i64 v1, .int .i64 v2, .int .i64 v3, .int .i64 v4]) ∨ (execOp a.eval o).run Tryz.prog w = .ok (.value undef) (w.setCells b k [.int .i64 v1, .int .i64 v2, .int .i64 v3, .int .i64 v4]) := by
    unfold execOp
    simp only [ho, hx, hy, Instr.storeAt, Instr.sureAddr, Sem.run_bind, Sem.run_pure, Result.andThen_ok, hs]
    simp
  unfold Gives
  rcases hrun with h | h <;> (rw [h]; exact hR)
def WpS (w : World) (o y : Ino) (W : World) : Prop := Lo [] w [(w.heap.size, inoL y), (w.heap.size + 1, inoL o), (w.heap.size + 2, inoL Ii.zero)] W
theorem with_box (w : World) (x o : Ino) : WpS w o x (((w.alloc (.cells (inoL x).toArray 31)).alloc (.cells (inoL o).toArray 31)).alloc (.cells (inoL Ii.zero).toArray 31)) :=
  (((Lo.start w (by simp)).alloc w.heap.size rfl (inoL x) _).alloc (w.heap.size + 1) (by simp) (inoL o) _).alloc (w.heap.size + 2) (by simp) (inoL Ii.zero) _
theorem WpS.setOne {w W : World} {o y : Ino} (h : WpS w o y W) (k : Nat) (v : Int) (z : Ino) (hk : k < 11) (hz : inoL z = (inoL y).take k ++ [.int .i64 v] ++ (inoL y).drop (k + 1)) : WpS w o z (W.setCell ⟨w.heap.size, k, none⟩ (.int .i64 v)) := by
  have := Lo.putAt h 0 (w.heap.size, inoL y) rfl k [.int .i64 v] (inoL z) (by exact hk) hz
  exact this
theorem WpS.setFour {w W : World} {o y : Ino} (h : WpS w o y W) (z : Ino) (v1 v2 v3 v4 : Int) (hz : inoL z = (inoL y).take 5 ++ [.int .i64 v1, .int .i64 v2, .int .i64 v3, .int .i64 v4] ++ (inoL y).drop 9) : WpS w o z (W.setCells w.heap.size 5 [.int .i64 v1, .int .i64 v2, .int .i64 v3, .int .i64 v4]) := by
  have := Lo.putAt h 0 (w.heap.size, inoL y) rfl 5 [.int .i64 v1, .int .i64 v2, .int .i64 v3, .int .i64 v4] (inoL z) (by show 9 ≤ 11; decide) hz
  exact this
section
variable {ops : Array Oper} {σ : Type} {S : σ → World → Prop}
theorem ord_four {o : Oper} {a : Act} {b : Nat} {x : Ino} (hw : Region.wanted o (yielded ops a.tmps) = true) (u : Operand) (ho : o.op = .load 29 u) (hx : a.eval u = .pointer (some ⟨b, 5, none⟩)) (hS : ∀ s w, S s w → RowAt w b (inoL x)) :
    OrdAt Tryz.prog ops S o (.agg #[.int .i64 x.a, .int .i64 x.b, .int .i64 x.c, .int .i64 x.d]) a :=
  ord_value hw fun s w hs => by
    unfold execOp
    have := run_loadVar_mid (P := Tryz.prog) w b 5 29 [.int .i64 x.a, .int .i64 x.b, .int .i64 x.c, .int .i64 x.d] _ (hS s w hs).four Tryz.underlying29 rfl (by kernel_rfl)
    simp only [ho, hx, Instr.loadAt, Instr.sureAddr, Sem.run_bind, Sem.run_pure, Result.andThen_ok, this]
end
section
variable {P : Program} {ops : Array Oper} {Q : Exit → Act → World → Prop} {σ : Type} {S : σ → World → Prop} {sp : Nat → Bool} {vals : Nat → Value} {Bp : List PanicEntry → World → Prop}
/-- a store that turns the kind -/
theorem linp_store {n : Nat} {s : σ} {listed : Array Bool} {a : Act} {i : Nat} {o : Oper} (s' : σ) (hi : ops[i]? = some o) (hd : o.dst = none) (hr : (Region.ready .any ops listed).contains i = true) (hf : Region.free .any ops listed i = true) (hsp : sp i = true)
    (hw : waitB ops sp listed i = true) (hwa : Region.wanted o (yielded ops a.tmps) = true) (hy : ∀ w, S s w → Gives P (execOp a.eval o) w fun u w' => u = undef ∧ S s' w')
    (h : LinP P .any ops Q S Bp sp vals n s' (listed.setIfInBounds i true) (a.put none undef)) : LinP P .any ops Q S Bp sp vals (n + 1) s listed a :=
  linp_turn (d := none) (fun u y => u = undef ∧ y = s') hi hd hr hf hsp hw ⟨_, _, rfl, rfl⟩ hwa (fun w hS => givesP_of ((hy w hS).mono fun u w' hh => ⟨s', ⟨hh.1, rfl⟩, hh.2⟩)) fun u y hN => by
    obtain ⟨rfl, rfl⟩ := hN
    exact h
end
set_option maxRecDepth 100000 in
set_option maxHeartbeats 2000000 in
theorem withP_any {w : World} (x o : Ino) : Calls Tryz.prog 43 #[inoV x, inoV o] w fun e w' => e = .returned (inoV (Fs.withP x o)) ∧ Below w.heap.size w w' := by
  have S0 := Lib.hid (with_box w x o)
  unfold inoV
  go_enter Tryz.func43, Tryz.ntmps43
  go_wp2_with fail
  generalize hw : World.alloc _ _ = w1
  have S : Hid (WpS w o x w1) := Lib.hid (by rw [← hw]; exact S0.out)
  clear hw S0
  refine wp_region_linp (WpS w o) (fun _ _ => False) (fun i => i == 9 || i == 11 || i == 13 || i == 15) (fun i => [.pointer (some ⟨w.heap.size + 1, 4, none⟩), .int .i64 o.s, .pointer (some ⟨w.heap.size + 1, 5, none⟩), .agg #[.int .i64 o.a, .int .i64 o.b, .int .i64 o.c, .int .i64 o.d], .pointer (some ⟨w.heap.size + 1, 9, none⟩), .int .i64 o.e, .pointer (some ⟨w.heap.size + 1, 10, none⟩), .int .i64 o.f, .pointer (some ⟨w.heap.size, 4, none⟩), undef, .pointer (some ⟨w.heap.size, 5, none⟩), undef, .pointer (some ⟨w.heap.size, 9, none⟩), undef, .pointer (some ⟨w.heap.size, 10, none⟩)].getD i undef) x (by kernel_rfl) (by kernel_rfl) (fun _ _ _ _ h => h.elim) S.out.drew ?_
  refine linp_step (i := 0) (d := some 5) (v := (.pointer (some ⟨w.heap.size + 1, 4, none⟩))) rfl rfl (by kernel_rfl) (by kernel_rfl) rfl rfl (ord_value (by kernel_rfl) ?_) ?_
  · ((intro _ _ _; go_simp) <;> kernel_rfl)
  try simp only [Act.put, List.setIfInBounds_toArray, List.set_cons_zero, List.set_cons_succ]
  refine linp_step (i := 1) (d := some 6) (v := (.int .i64 o.s)) rfl rfl (by kernel_rfl) (by kernel_rfl) rfl rfl (ord_value (by kernel_rfl) ?_) ?_
  · (intro sZ wZ hZ; have cZ := (fun (y : Ino) (W : World) (hS : WpS w o y W) => (hS.get 1 _ rfl).cell 4 _ rfl) sZ wZ hZ; go_simp)
  try simp only [Act.put, List.setIfInBounds_toArray, List.set_cons_zero, List.set_cons_succ]
  refine linp_step (i := 2) (d := some 7) (v := (.pointer (some ⟨w.heap.size + 1, 5, none⟩))) rfl rfl (by kernel_rfl) (by kernel_rfl) rfl rfl (ord_value (by kernel_rfl) ?_) ?_
  · ((intro _ _ _; go_simp) <;> kernel_rfl)
  try simp only [Act.put, List.setIfInBounds_toArray, List.set_cons_zero, List.set_cons_succ]
  refine linp_step (i := 3) (d := some 8) (v := .agg #[.int .i64 o.a, .int .i64 o.b, .int .i64 o.c, .int .i64 o.d]) rfl rfl (by kernel_rfl) (by kernel_rfl) rfl rfl (ord_four (by kernel_rfl) (.tmp 7) rfl rfl (fun y W hS => hS.get 1 _ rfl)) ?_
  try simp only [Act.put, List.setIfInBounds_toArray, List.set_cons_zero, List.set_cons_succ]
  refine linp_step (i := 4) (d := some 9) (v := (.pointer (some ⟨w.heap.size + 1, 9, none⟩))) rfl rfl (by kernel_rfl) (by kernel_rfl) rfl rfl (ord_value (by kernel_rfl) ?_) ?_
  · ((intro _ _ _; go_simp) <;> kernel_rfl)
  try simp only [Act.put, List.setIfInBounds_toArray, List.set_cons_zero, List.set_cons_succ]
  refine linp_step (i := 5) (d := some 10) (v := (.int .i64 o.e)) rfl rfl (by kernel_rfl) (by kernel_rfl) rfl rfl (ord_value (by kernel_rfl) ?_) ?_
  · (intro sZ wZ hZ; have cZ := (fun (y : Ino) (W : World) (hS : WpS w o y W) => (hS.get 1 _ rfl).cell 9 _ rfl) sZ wZ hZ; go_simp)
  try simp only [Act.put, List.setIfInBounds_toArray, List.set_cons_zero, List.set_cons_succ]
  refine linp_step (i := 6) (d := some 11) (v := (.pointer (some ⟨w.heap.size + 1, 10, none⟩))) rfl rfl (by kernel_rfl) (by kernel_rfl) rfl rfl (ord_value (by kernel_rfl) ?_) ?_
  · ((intro _ _ _; go_simp) <;> kernel_rfl)
  try simp only [Act.put, List.setIfInBounds_toArray, List.set_cons_zero, List.set_cons_succ]
  refine linp_step (i := 7) (d := some 12) (v := (.int .i64 o.f)) rfl rfl (by kernel_rfl) (by kernel_rfl) rfl rfl (ord_value (by kernel_rfl) ?_) ?_
  · (intro sZ wZ hZ; have cZ := (fun (y : Ino) (W : World) (hS : WpS w o y W) => (hS.get 1 _ rfl).cell 10 _ rfl) sZ wZ hZ; go_simp)
  try simp only [Act.put, List.setIfInBounds_toArray, List.set_cons_zero, List.set_cons_succ]
  refine linp_step (i := 8) (d := some 13) (v := (.pointer (some ⟨w.heap.size, 4, none⟩))) rfl rfl (by kernel_rfl) (by kernel_rfl) rfl rfl (ord_value (by kernel_rfl) ?_) ?_
  · ((intro _ _ _; go_simp) <;> kernel_rfl)
  try simp only [Act.put, List.setIfInBounds_toArray, List.set_cons_zero, List.set_cons_succ]
  refine linp_store (i := 9) ({ x with s := o.s }) rfl rfl (by kernel_rfl) (by kernel_rfl) rfl (by kernel_rfl) (by kernel_rfl) (fun W hS => gives_store_cell (hS.get 0 _ rfl) (show 4 < 11 by decide) (.tmp 13) (.tmp 6) rfl rfl rfl ⟨rfl, hS.setOne 4 o.s _ (by decide) rfl⟩) ?_
  try simp only [Act.put]
  refine linp_step (i := 10) (d := some 14) (v := (.pointer (some ⟨w.heap.size, 5, none⟩))) rfl rfl (by kernel_rfl) (by kernel_rfl) rfl rfl (ord_value (by kernel_rfl) ?_) ?_
  · ((intro _ _ _; go_simp) <;> kernel_rfl)
  try simp only [Act.put, List.setIfInBounds_toArray, List.set_cons_zero, List.set_cons_succ]
  refine linp_store (i := 11) ({ x with s := o.s, a := o.a, b := o.b, c := o.c, d := o.d }) rfl rfl (by kernel_rfl) (by kernel_rfl) rfl (by kernel_rfl) (by kernel_rfl) (fun W hS => gives_store_four (hS.get 0 _ rfl) (show 5 + 4 ≤ 11 by decide) (.tmp 14) (.tmp 8) rfl rfl rfl ⟨rfl, hS.setFour _ o.a o.b o.c o.d rfl⟩) ?_
  try simp only [Act.put]
  refine linp_step (i := 12) (d := some 15) (v := (.pointer (some ⟨w.heap.size, 9, none⟩))) rfl rfl (by kernel_rfl) (by kernel_rfl) rfl rfl (ord_value (by kernel_rfl) ?_) ?_
  · ((intro _ _ _; go_simp) <;> kernel_rfl)
  try simp only [Act.put, List.setIfInBounds_toArray, List.set_cons_zero, List.set_cons_succ]
  refine linp_store (i := 13) ({ x with s := o.s, a := o.a, b := o.b, c := o.c, d := o.d, e := o.e }) rfl rfl (by kernel_rfl) (by kernel_rfl) rfl (by kernel_rfl) (by kernel_rfl) (fun W hS => gives_store_cell (hS.get 0 _ rfl) (show 9 < 11 by decide) (.tmp 15) (.tmp 10) rfl rfl rfl ⟨rfl, hS.setOne 9 o.e _ (by decide) rfl⟩) ?_
  try simp only [Act.put]
  refine linp_step (i := 14) (d := some 16) (v := (.pointer (some ⟨w.heap.size, 10, none⟩))) rfl rfl (by kernel_rfl) (by kernel_rfl) rfl rfl (ord_value (by kernel_rfl) ?_) ?_
  · ((intro _ _ _; go_simp) <;> kernel_rfl)
  try simp only [Act.put, List.setIfInBounds_toArray, List.set_cons_zero, List.set_cons_succ]
  refine linp_store (i := 15) (Fs.withP x o) rfl rfl (by kernel_rfl) (by kernel_rfl) rfl (by kernel_rfl) (by kernel_rfl) (fun W hS => gives_store_cell (hS.get 0 _ rfl) (show 10 < 11 by decide) (.tmp 16) (.tmp 12) rfl rfl rfl ⟨rfl, hS.setOne 10 o.f _ (by decide) rfl⟩) ?_
  try simp only [Act.put]
  refine linp_done (by kernel_rfl) fun W hS => ?_
  have S3 : Hid (Lo [] w [(w.heap.size, inoL (Fs.withP x o)), (w.heap.size + 1, inoL o), (w.heap.size + 2, inoL Ii.zero)] W) := Lib.hid hS
  clear hS S
  go_wp2_with (first
    | (with_reducible refine wpList_load_rw inoT (S3.out.get 0 _ rfl) rfl rfl (.tmp 2) rfl rfl ?_)
    | ((with_reducible refine wpList_store_rw (vs := inoL (Fs.withP x o)) inoT (S3.out.get 2 _ rfl) ?_ ?_ (inoL_one _) rfl (.tmp 4) (.tmp 17) rfl ?_ ?_ ?_); (exact rfl); (exact rfl); (exact rfl); (exact rfl)))
  have S4 := Lib.hid (S3.out.put 2 _ rfl (inoL (Fs.withP x o)) rfl)
  exact bodyPost_ret (results_row1 inoT _ 4 rfl _ (S4.out.get 2 _ rfl) rfl rfl) rfl ⟨rfl, S4.out.bel⟩
section
variable {ops : Array Oper} {σ : Type} {S : σ → World → Prop}
theorem ord_mid {t : TypeId} {vs : List Value} {o : Oper} {a : Act} {b f : Nat} (hl : ∀ w : World, w.rangeAt b f vs → (loadVar t ⟨b, f, none⟩).run Tryz.prog w = .ok (.agg vs.toArray) w) (hw : Region.wanted o (yielded ops a.tmps) = true) (u : Operand) (ho : o.op = .load t u) (hx : a.eval u = .pointer (some ⟨b, f, none⟩)) (hS : ∀ s w, S s w → w.rangeAt b f vs) :
    OrdAt Tryz.prog ops S o (.agg vs.toArray) a :=
  ord_value hw fun s w hs => by
    unfold execOp
    have := hl w (hS s w hs)
    simp only [ho, hx, Instr.loadAt, Instr.sureAddr, Sem.run_bind, Sem.run_pure, Result.andThen_ok, this]
end
set_option maxRecDepth 100000 in
theorem loads_plan {B o : Nat} {n I : Int} (w : World) (h : w.rangeAt B o (planL n I)) : (loadVar 63 ⟨B, o, none⟩).run Tryz.prog w = .ok (.agg (planL n I).toArray) w :=
  run_loadVar_mid (P := Tryz.prog) w B o 63 (planL n I) _ h Tryz.underlying63 rfl (by kernel_rfl)
set_option maxRecDepth 100000 in
theorem loads_ino {B o : Nat} {x : Ino} (w : World) (h : w.rangeAt B o (inoL x)) : (loadVar 31 ⟨B, o, none⟩).run Tryz.prog w = .ok (.agg (inoL x).toArray) w :=
  run_loadVar_mid (P := Tryz.prog) w B o 31 (inoL x) _ h Tryz.underlying31 rfl (by kernel_rfl)
set_option maxRecDepth 100000 in
theorem loads_base {B o st : Nat} {n I : Int} (w : World) (h : w.rangeAt B o (baseL st n I)) : (loadVar 77 ⟨B, o, none⟩).run Tryz.prog w = .ok (.agg (baseL st n I).toArray) w :=
  run_loadVar_mid (P := Tryz.prog) w B o 77 (baseL st n I) _ h Tryz.underlying77 rfl (by kernel_rfl)
theorem right_box (w : World) (x : Ino) : Lo [] w [(w.heap.size, inoL x), (w.heap.size + 1, inoL Ii.zero)] ((w.alloc (.cells (inoL x).toArray 31)).alloc (.cells (inoL Ii.zero).toArray 31)) :=
  ((Lo.start w (by simp)).alloc w.heap.size rfl (inoL x) _).alloc (w.heap.size + 1) (by simp) (inoL Ii.zero) _
set_option maxRecDepth 100000 in
set_option maxHeartbeats 2000000 in
theorem smustRight_any {w : World} {B : Nat} {b : Blk} {s : Sto} {n I : Int} (h : Ctx w B b s n I) (x : Ino) : Calls Tryz.prog 42 #[.pointer (some ⟨B, 0, none⟩), inoV x] w (Ends B b n I [] w s (Fs.rightM n I x) fun y e _ => e = .returned (inoV y)) := by
  refine calls_of fun R H => ?_
  have S0 := Lib.hid (right_box w x)
  have HB : Hid (∀ W, Lo [] w [(w.heap.size, inoL x), (w.heap.size + 1, inoL Ii.zero)] W → RowAt W B (stepL b.s n I true 0)) := Lib.hid (fun W hl => (Lo.ctx (L := []) hl h).step)
  have HE : Hid (¬ (x.k = 0 ∨ Ii.rightI n I x = false) → ∀ W, Lo [] w [(w.heap.size, inoL x), (w.heap.size + 1, inoL x)] W → R (.returned (inoV x)) W) := Lib.hid (fun c W hl => H.out _ _ (Or.inl ⟨x, s, [], by unfold Fs.rightM; rw [if_neg c]; rfl, Goes.refl s, Lo.ctx (L := []) hl h, rfl, hl.only.mono (by simp)⟩))
  have HF : Hid ((x.k = 0 ∨ Ii.rightI n I x = false) → ∀ W, Lo [] w [(w.heap.size, inoL x), (w.heap.size + 1, inoL Ii.zero)] W → Calls Tryz.prog 19 #[.pointer (some ⟨B, 0, none⟩), .int .i64 22] W fun e w' => e = .panicked [failE B] ∧ R (.panicked [failE B]) w') := Lib.hid (fun c W hl => (fail_any (Lo.ctx (L := []) hl h) 22 (by decide)).mono fun e w' hh => ⟨hh.1, H.out _ _ (Or.inr ⟨22, Or.inl ⟨nv s, [], by unfold Fs.rightM; rw [if_pos c]; rfl⟩, by decide, hh.2.1, rfl, (hl.only.mono (by simp)).via hh.2.2 (fun i hi => Or.inl (by simp at hi ⊢; exact Or.inl hi))⟩)⟩)
  have HR : Hid (∀ w, Calls Tryz.prog 84 #[.agg (inoL x).toArray, .agg (planL n I).toArray] w fun e w' => e = .returned (.bool (Ii.rightI n I x)) ∧ Below w.heap.size w w') := Lib.hid (fun w => iright_any n I x w)
  clear h H
  by_cases hk : x.k = 0
  · replace HF := Lib.hid (HF.out (Or.inl hk))
    have gk : (x.k == 0) = true := by rw [hk]; rfl
    clear hk HE HR
    unfold inoV
    go_enter Tryz.func42, Tryz.ntmps42
    go_wp2_with fail
    generalize hw : World.alloc _ _ = w1
    have S : Hid (Lo [] w [(w.heap.size, inoL x), (w.heap.size + 1, inoL Ii.zero)] w1) := Lib.hid (by rw [← hw]; exact S0.out)
    clear hw S0
    refine wp_region_linp (fun (_ : Unit) W => Lo [] w [(w.heap.size, inoL x), (w.heap.size + 1, inoL Ii.zero)] W) (fun _ _ => False) (fun _ => false) (fun i => [.pointer (some ⟨w.heap.size, 0, none⟩), .int .i64 x.k, .bool true, .bool true, undef, undef, undef, undef, undef, undef, undef, undef, .bool true].getD i undef) () (by kernel_rfl) (by kernel_rfl) (fun _ _ _ _ h => h.elim) S.out.drew ?_
    refine linp_step (i := 0) (d := some 5) (v := (.pointer (some ⟨w.heap.size, 0, none⟩))) rfl rfl (by kernel_rfl) (by kernel_rfl) rfl rfl (ord_value (by kernel_rfl) ?_) ?_
    · ((intro _ _ _; go_simp) <;> kernel_rfl)
    try simp only [Act.put, List.setIfInBounds_toArray, List.set_cons_zero, List.set_cons_succ]
    refine linp_step (i := 1) (d := some 6) (v := (.int .i64 x.k)) rfl rfl (by kernel_rfl) (by kernel_rfl) rfl rfl (ord_value (by kernel_rfl) ?_) ?_
    · (intro sZ wZ hZ; have cZ := (fun (_ : Unit) (W : World) (hS : Lo [] w [(w.heap.size, inoL x), (w.heap.size + 1, inoL Ii.zero)] W) => (hS.get 0 _ rfl).cell 0 _ rfl) sZ wZ hZ; go_simp)
    try simp only [Act.put, List.setIfInBounds_toArray, List.set_cons_zero, List.set_cons_succ]
    refine linp_step (i := 2) (d := some 7) (v := (.bool true)) rfl rfl (by kernel_rfl) (by kernel_rfl) rfl rfl (ord_value (by kernel_rfl) ?_) ?_
    · ((intro _ _ _; go_simp) <;> kernel_rfl)
    try simp only [Act.put, List.setIfInBounds_toArray, List.set_cons_zero, List.set_cons_succ]
    refine linp_step (i := 3) (d := some 8) (v := (.bool true)) rfl rfl (by kernel_rfl) (by kernel_rfl) rfl rfl (ord_value (by kernel_rfl) ?_) ?_
    · ((intro _ _ _; go_simp) <;> kernel_rfl)
    try simp only [Act.put, List.setIfInBounds_toArray, List.set_cons_zero, List.set_cons_succ]
    refine linp_step (i := 4) (d := some 9) (v := undef) rfl rfl (by kernel_rfl) (by kernel_rfl) rfl rfl (ord_skip (by kernel_rfl)) ?_
    try simp only [Act.put, List.setIfInBounds_toArray, List.set_cons_zero, List.set_cons_succ]
    refine linp_step (i := 5) (d := some 10) (v := undef) rfl rfl (by kernel_rfl) (by kernel_rfl) rfl rfl (ord_skip (by kernel_rfl)) ?_
    try simp only [Act.put, List.setIfInBounds_toArray, List.set_cons_zero, List.set_cons_succ]
    refine linp_step (i := 6) (d := some 11) (v := undef) rfl rfl (by kernel_rfl) (by kernel_rfl) rfl rfl (ord_skip (by kernel_rfl)) ?_
    try simp only [Act.put, List.setIfInBounds_toArray, List.set_cons_zero, List.set_cons_succ]
    refine linp_step (i := 7) (d := some 12) (v := undef) rfl rfl (by kernel_rfl) (by kernel_rfl) rfl rfl (ord_skip (by kernel_rfl)) ?_
    try simp only [Act.put, List.setIfInBounds_toArray, List.set_cons_zero, List.set_cons_succ]
    refine linp_step (i := 8) (d := some 13) (v := undef) rfl rfl (by kernel_rfl) (by kernel_rfl) rfl rfl (ord_skip (by kernel_rfl)) ?_
    try simp only [Act.put, List.setIfInBounds_toArray, List.set_cons_zero, List.set_cons_succ]
    refine linp_step (i := 9) (d := some 14) (v := undef) rfl rfl (by kernel_rfl) (by kernel_rfl) rfl rfl (ord_skip (by kernel_rfl)) ?_
    try simp only [Act.put, List.setIfInBounds_toArray, List.set_cons_zero, List.set_cons_succ]
    refine linp_step (i := 10) (d := some 15) (v := undef) rfl rfl (by kernel_rfl) (by kernel_rfl) rfl rfl (ord_skip (by kernel_rfl)) ?_
    try simp only [Act.put, List.setIfInBounds_toArray, List.set_cons_zero, List.set_cons_succ]
    refine linp_step (i := 11) (d := some 16) (v := undef) rfl rfl (by kernel_rfl) (by kernel_rfl) rfl rfl (ord_skip (by kernel_rfl)) ?_
    try simp only [Act.put, List.setIfInBounds_toArray, List.set_cons_zero, List.set_cons_succ]
    refine linp_step (i := 12) (d := some 17) (v := (.bool true)) rfl rfl (by kernel_rfl) (by kernel_rfl) rfl rfl (ord_value (by kernel_rfl) ?_) ?_
    · ((intro _ _ _; go_simp) <;> kernel_rfl)
    try simp only [Act.put, List.setIfInBounds_toArray, List.set_cons_zero, List.set_cons_succ]
    refine linp_done (by kernel_rfl) fun W hS => ?_
    have S3 := Lib.hid hS
    clear hS S
    go_wp2_with (go_at_call 19; refine (HF.out _ S3.out).mono ?_; rintro e w1 ⟨rfl, hR⟩)
    exact ⟨rfl, hR⟩
  · have gk : (x.k == 0) = false := by simpa using hk
    cases hr : Ii.rightI n I x with
    | false =>
      replace HF := Lib.hid (HF.out (Or.inr hr))
      rw [hr] at HR
      clear hk HE hr
      unfold inoV
      go_enter Tryz.func42, Tryz.ntmps42
      go_wp2_with fail
      generalize hw : World.alloc _ _ = w1
      have S : Hid (Lo [] w [(w.heap.size, inoL x), (w.heap.size + 1, inoL Ii.zero)] w1) := Lib.hid (by rw [← hw]; exact S0.out)
      clear hw S0
      refine wp_region_linp (fun (_ : Unit) W => Lo [] w [(w.heap.size, inoL x), (w.heap.size + 1, inoL Ii.zero)] W) (fun _ _ => False) (fun _ => false) (fun i => [.pointer (some ⟨w.heap.size, 0, none⟩), .int .i64 x.k, .bool false, .bool false, .agg (inoL x).toArray, .pointer (some ⟨B, 0, none⟩), .pointer (some ⟨B, 0, none⟩), .pointer (some ⟨B, 0, none⟩), .pointer (some ⟨B, 1, none⟩), .agg (planL n I).toArray, .bool false, .bool true, .bool true].getD i undef) () (by kernel_rfl) (by kernel_rfl) (fun _ _ _ _ h => h.elim) S.out.drew ?_
      refine linp_step (i := 0) (d := some 5) (v := (.pointer (some ⟨w.heap.size, 0, none⟩))) rfl rfl (by kernel_rfl) (by kernel_rfl) rfl rfl (ord_value (by kernel_rfl) ?_) ?_
      · ((intro _ _ _; go_simp) <;> kernel_rfl)
      try simp only [Act.put, List.setIfInBounds_toArray, List.set_cons_zero, List.set_cons_succ]
      refine linp_step (i := 1) (d := some 6) (v := (.int .i64 x.k)) rfl rfl (by kernel_rfl) (by kernel_rfl) rfl rfl (ord_value (by kernel_rfl) ?_) ?_
      · (intro sZ wZ hZ; have cZ := (fun (_ : Unit) (W : World) (hS : Lo [] w [(w.heap.size, inoL x), (w.heap.size + 1, inoL Ii.zero)] W) => (hS.get 0 _ rfl).cell 0 _ rfl) sZ wZ hZ; go_simp)
      try simp only [Act.put, List.setIfInBounds_toArray, List.set_cons_zero, List.set_cons_succ]
      refine linp_step (i := 2) (d := some 7) (v := (.bool false)) rfl rfl (by kernel_rfl) (by kernel_rfl) rfl rfl (ord_value (by kernel_rfl) ?_) ?_
      · ((intro _ _ _; go_simp) <;> kernel_rfl)
      try simp only [Act.put, List.setIfInBounds_toArray, List.set_cons_zero, List.set_cons_succ]
      refine linp_step (i := 3) (d := some 8) (v := (.bool false)) rfl rfl (by kernel_rfl) (by kernel_rfl) rfl rfl (ord_value (by kernel_rfl) ?_) ?_
      · ((intro _ _ _; go_simp) <;> kernel_rfl)
      try simp only [Act.put, List.setIfInBounds_toArray, List.set_cons_zero, List.set_cons_succ]
      refine linp_step (i := 4) (d := some 9) (v := (.agg (inoL x).toArray)) rfl rfl (by kernel_rfl) (by kernel_rfl) rfl rfl (ord_mid loads_ino (by kernel_rfl) (.tmp 3) rfl rfl (fun _ W hS => (hS.get 0 _ rfl).range)) ?_
      try simp only [Act.put, List.setIfInBounds_toArray, List.set_cons_zero, List.set_cons_succ]
      refine linp_step (i := 5) (d := some 10) (v := (.pointer (some ⟨B, 0, none⟩))) rfl rfl (by kernel_rfl) (by kernel_rfl) rfl rfl (ord_value (by kernel_rfl) ?_) ?_
      · ((intro _ _ _; go_simp) <;> kernel_rfl)
      try simp only [Act.put, List.setIfInBounds_toArray, List.set_cons_zero, List.set_cons_succ]
      refine linp_step (i := 6) (d := some 11) (v := (.pointer (some ⟨B, 0, none⟩))) rfl rfl (by kernel_rfl) (by kernel_rfl) rfl rfl (ord_value (by kernel_rfl) ?_) ?_
      · ((intro _ _ _; go_simp) <;> kernel_rfl)
      try simp only [Act.put, List.setIfInBounds_toArray, List.set_cons_zero, List.set_cons_succ]
      refine linp_step (i := 7) (d := some 12) (v := (.pointer (some ⟨B, 0, none⟩))) rfl rfl (by kernel_rfl) (by kernel_rfl) rfl rfl (ord_value (by kernel_rfl) ?_) ?_
      · ((intro _ _ _; go_simp) <;> kernel_rfl)
      try simp only [Act.put, List.setIfInBounds_toArray, List.set_cons_zero, List.set_cons_succ]
      refine linp_step (i := 8) (d := some 13) (v := (.pointer (some ⟨B, 1, none⟩))) rfl rfl (by kernel_rfl) (by kernel_rfl) rfl rfl (ord_value (by kernel_rfl) ?_) ?_
      · ((intro _ _ _; go_simp) <;> kernel_rfl)
      try simp only [Act.put, List.setIfInBounds_toArray, List.set_cons_zero, List.set_cons_succ]
      refine linp_step (i := 9) (d := some 14) (v := (.agg (planL n I).toArray)) rfl rfl (by kernel_rfl) (by kernel_rfl) rfl rfl (ord_mid loads_plan (by kernel_rfl) (.tmp 13) rfl rfl (fun _ W hS => (HB.out W hS).plan)) ?_
      try simp only [Act.put, List.setIfInBounds_toArray, List.set_cons_zero, List.set_cons_succ]
      refine linp_step (i := 10) (d := some 15) (v := (.bool false)) rfl rfl (by kernel_rfl) (by kernel_rfl) rfl rfl (ord_call (f := 84) (args := #[.agg (inoL x).toArray, .agg (planL n I).toArray]) (by kernel_rfl) ?_ (fun _ W hS => (HR.out W).mono fun e w' hh => ⟨hh.1, hS.below hh.2⟩)) ?_
      · (intro _; go_simp)
      try simp only [Act.put, List.setIfInBounds_toArray, List.set_cons_zero, List.set_cons_succ]
      refine linp_step (i := 11) (d := some 16) (v := (.bool true)) rfl rfl (by kernel_rfl) (by kernel_rfl) rfl rfl (ord_value (by kernel_rfl) ?_) ?_
      · ((intro _ _ _; go_simp) <;> kernel_rfl)
      try simp only [Act.put, List.setIfInBounds_toArray, List.set_cons_zero, List.set_cons_succ]
      refine linp_step (i := 12) (d := some 17) (v := (.bool true)) rfl rfl (by kernel_rfl) (by kernel_rfl) rfl rfl (ord_value (by kernel_rfl) ?_) ?_
      · ((intro _ _ _; go_simp) <;> kernel_rfl)
      try simp only [Act.put, List.setIfInBounds_toArray, List.set_cons_zero, List.set_cons_succ]
      refine linp_done (by kernel_rfl) fun W hS => ?_
      have S3 := Lib.hid hS
      clear hS S
      go_wp2_with (go_at_call 19; refine (HF.out _ S3.out).mono ?_; rintro e w1 ⟨rfl, hR⟩)
      exact ⟨rfl, hR⟩
    | true =>
      replace HE := Lib.hid (HE.out (by rw [hr]; simpa using hk))
      rw [hr] at HR
      clear hk HF hr
      unfold inoV
      go_enter Tryz.func42, Tryz.ntmps42
      go_wp2_with fail
      generalize hw : World.alloc _ _ = w1
      have S : Hid (Lo [] w [(w.heap.size, inoL x), (w.heap.size + 1, inoL Ii.zero)] w1) := Lib.hid (by rw [← hw]; exact S0.out)
      clear hw S0
      refine wp_region_linp (fun (_ : Unit) W => Lo [] w [(w.heap.size, inoL x), (w.heap.size + 1, inoL Ii.zero)] W) (fun _ _ => False) (fun _ => false) (fun i => [.pointer (some ⟨w.heap.size, 0, none⟩), .int .i64 x.k, .bool false, .bool false, .agg (inoL x).toArray, .pointer (some ⟨B, 0, none⟩), .pointer (some ⟨B, 0, none⟩), .pointer (some ⟨B, 0, none⟩), .pointer (some ⟨B, 1, none⟩), .agg (planL n I).toArray, .bool true, .bool false, .bool false].getD i undef) () (by kernel_rfl) (by kernel_rfl) (fun _ _ _ _ h => h.elim) S.out.drew ?_
      refine linp_step (i := 0) (d := some 5) (v := (.pointer (some ⟨w.heap.size, 0, none⟩))) rfl rfl (by kernel_rfl) (by kernel_rfl) rfl rfl (ord_value (by kernel_rfl) ?_) ?_
      · ((intro _ _ _; go_simp) <;> kernel_rfl)
      try simp only [Act.put, List.setIfInBounds_toArray, List.set_cons_zero, List.set_cons_succ]
      refine linp_step (i := 1) (d := some 6) (v := (.int .i64 x.k)) rfl rfl (by kernel_rfl) (by kernel_rfl) rfl rfl (ord_value (by kernel_rfl) ?_) ?_
      · (intro sZ wZ hZ; have cZ := (fun (_ : Unit) (W : World) (hS : Lo [] w [(w.heap.size, inoL x), (w.heap.size + 1, inoL Ii.zero)] W) => (hS.get 0 _ rfl).cell 0 _ rfl) sZ wZ hZ; go_simp)
      try simp only [Act.put, List.setIfInBounds_toArray, List.set_cons_zero, List.set_cons_succ]
      refine linp_step (i := 2) (d := some 7) (v := (.bool false)) rfl rfl (by kernel_rfl) (by kernel_rfl) rfl rfl (ord_value (by kernel_rfl) ?_) ?_
      · ((intro _ _ _; go_simp) <;> kernel_rfl)
      try simp only [Act.put, List.setIfInBounds_toArray, List.set_cons_zero, List.set_cons_succ]
      refine linp_step (i := 3) (d := some 8) (v := (.bool false)) rfl rfl (by kernel_rfl) (by kernel_rfl) rfl rfl (ord_value (by kernel_rfl) ?_) ?_
      · ((intro _ _ _; go_simp) <;> kernel_rfl)
      try simp only [Act.put, List.setIfInBounds_toArray, List.set_cons_zero, List.set_cons_succ]
      refine linp_step (i := 4) (d := some 9) (v := (.agg (inoL x).toArray)) rfl rfl (by kernel_rfl) (by kernel_rfl) rfl rfl (ord_mid loads_ino (by kernel_rfl) (.tmp 3) rfl rfl (fun _ W hS => (hS.get 0 _ rfl).range)) ?_
      try simp only [Act.put, List.setIfInBounds_toArray, List.set_cons_zero, List.set_cons_succ]
      refine linp_step (i := 5) (d := some 10) (v := (.pointer (some ⟨B, 0, none⟩))) rfl rfl (by kernel_rfl) (by kernel_rfl) rfl rfl (ord_value (by kernel_rfl) ?_) ?_
      · ((intro _ _ _; go_simp) <;> kernel_rfl)
      try simp only [Act.put, List.setIfInBounds_toArray, List.set_cons_zero, List.set_cons_succ]
      refine linp_step (i := 6) (d := some 11) (v := (.pointer (some ⟨B, 0, none⟩))) rfl rfl (by kernel_rfl) (by kernel_rfl) rfl rfl (ord_value (by kernel_rfl) ?_) ?_
      · ((intro _ _ _; go_simp) <;> kernel_rfl)
      try simp only [Act.put, List.setIfInBounds_toArray, List.set_cons_zero, List.set_cons_succ]
      refine linp_step (i := 7) (d := some 12) (v := (.pointer (some ⟨B, 0, none⟩))) rfl rfl (by kernel_rfl) (by kernel_rfl) rfl rfl (ord_value (by kernel_rfl) ?_) ?_
      · ((intro _ _ _; go_simp) <;> kernel_rfl)
      try simp only [Act.put, List.setIfInBounds_toArray, List.set_cons_zero, List.set_cons_succ]
      refine linp_step (i := 8) (d := some 13) (v := (.pointer (some ⟨B, 1, none⟩))) rfl rfl (by kernel_rfl) (by kernel_rfl) rfl rfl (ord_value (by kernel_rfl) ?_) ?_
      · ((intro _ _ _; go_simp) <;> kernel_rfl)
      try simp only [Act.put, List.setIfInBounds_toArray, List.set_cons_zero, List.set_cons_succ]
      refine linp_step (i := 9) (d := some 14) (v := (.agg (planL n I).toArray)) rfl rfl (by kernel_rfl) (by kernel_rfl) rfl rfl (ord_mid loads_plan (by kernel_rfl) (.tmp 13) rfl rfl (fun _ W hS => (HB.out W hS).plan)) ?_
      try simp only [Act.put, List.setIfInBounds_toArray, List.set_cons_zero, List.set_cons_succ]
      refine linp_step (i := 10) (d := some 15) (v := (.bool true)) rfl rfl (by kernel_rfl) (by kernel_rfl) rfl rfl (ord_call (f := 84) (args := #[.agg (inoL x).toArray, .agg (planL n I).toArray]) (by kernel_rfl) ?_ (fun _ W hS => (HR.out W).mono fun e w' hh => ⟨hh.1, hS.below hh.2⟩)) ?_
      · (intro _; go_simp)
      try simp only [Act.put, List.setIfInBounds_toArray, List.set_cons_zero, List.set_cons_succ]
      refine linp_step (i := 11) (d := some 16) (v := (.bool false)) rfl rfl (by kernel_rfl) (by kernel_rfl) rfl rfl (ord_value (by kernel_rfl) ?_) ?_
      · ((intro _ _ _; go_simp) <;> kernel_rfl)
      try simp only [Act.put, List.setIfInBounds_toArray, List.set_cons_zero, List.set_cons_succ]
      refine linp_step (i := 12) (d := some 17) (v := (.bool false)) rfl rfl (by kernel_rfl) (by kernel_rfl) rfl rfl (ord_value (by kernel_rfl) ?_) ?_
      · ((intro _ _ _; go_simp) <;> kernel_rfl)
      try simp only [Act.put, List.setIfInBounds_toArray, List.set_cons_zero, List.set_cons_succ]
      refine linp_done (by kernel_rfl) fun W hS => ?_
      have S3 := Lib.hid hS
      clear hS S
      go_wp2_with (first
        | (with_reducible refine wpList_load_rw inoT (S3.out.get 0 _ rfl) rfl rfl (.tmp 3) rfl rfl ?_)
        | ((with_reducible refine wpList_store_rw (vs := inoL x) inoT (S3.out.get 1 _ rfl) ?_ ?_ (inoL_one _) rfl (.tmp 4) (.tmp 20) rfl ?_ ?_ ?_); (exact rfl); (exact rfl); (exact rfl); (exact rfl)))
      have S4 := Lib.hid (S3.out.put 1 _ rfl (inoL x) rfl)
      exact bodyPost_ret (results_row1 inoT _ 4 rfl _ (S4.out.get 1 _ rfl) rfl rfl) rfl (HE.out _ S4.out)
end Go.Proofs.YtncmihikpcdgoaaGreat

namespace Go.Proofs.YtncmihikpcdgoaaGreat
open Go.RowKit Go.Maps
open Dk (zeros zeros_length)
open Ii (Ino)
theorem Fs.least_bd {V : Fs.View} : ∀ (c : Nat) (i : Int) {k : Int}, Fs.leastG V c i = .ok k → i ≤ k ∧ k < i + c
  | 0, i, k, h => by cases h
  | c + 1, i, k, h => by
    rw [Fs.leastG] at h
    split at h
    · injection h with h; subst h; omega
    · have := Fs.least_bd c (i + 1) h; omega
set_option maxRecDepth 100000 in
set_option maxHeartbeats 2000000 in
theorem sleast_any {w : World} {B : Nat} {b : Blk} {s : Sto} {n I : Int} (h : Ctx w B b s n I) : Calls Tryz.prog 44 #[.pointer (some ⟨B, 0, none⟩)] w (Ends B b n I [] w s (Fs.leastM I) fun i e _ => e = .returned (.int .i64 i)) := by
  refine calls_of fun R H => ?_
  have hI := h.vs.bd
  have HB : Hid (∀ W l, Lo [] w l W → RowAt W B (stepL b.s n I true 0)) := Lib.hid (fun W l hl => (Lo.ctx (L := []) hl h).step)
  have HI : Hid (∀ W l i, Lo [] w l W → 1 ≤ i → i ≤ I → Calls Tryz.prog 69 #[baseV b.s n I, .int .i64 i] W fun e w' => e = .returned (.tuple #[inoV (Fs.inoAt (nv s) i), .int .i64 0]) ∧ Below W.heap.size W w') := Lib.hid (fun W l i hl h1 h2 => binode_yes (hl.store h.store) h.vs i h1 h2)
  have HE : Hid (∀ W l i, Lo [] w l W → Fs.leastG (nv s) I.toNat 1 = .ok i → R (.returned (.int .i64 i)) W) := Lib.hid (fun W l i hl hx => H.out _ _ (Ends.told (f := fun V => Fs.leastG V I.toNat 1) hx h hl.bel rfl))
  have HF : Hid (∀ W l, Lo [] w l W → Fs.leastG (nv s) I.toNat 1 = .error 28 → Calls Tryz.prog 19 #[.pointer (some ⟨B, 0, none⟩), .int .i64 28] W fun e w' => e = .panicked [failE B] ∧ R (.panicked [failE B]) w') := Lib.hid (fun W l hl hx => (fail_any (Lo.ctx (L := []) hl h) 28 (by decide)).mono fun e w' hh => ⟨hh.1, H.out _ _ (Ends.untold (f := fun V => Fs.leastG V I.toNat 1) hx (by decide) hl.bel hh.2.1 hh.2.2)⟩)
  have hI1 := hI.1
  have hI2 := hI.2.1
  clear h H hI
  generalize hX : Fs.leastG (nv s) I.toNat 1 = X at HE HF
  have HX0 := Lib.hid hX
  clear hX
  have S0 := Lib.hid (Lo.start (L := []) w (by simp))
  go_enter Tryz.func44, Tryz.ntmps44
  go_wp2_with fail
  go_loopw [3] (fun i wr => ∃ (k : Nat), (k : Int) ≤ I ∧ i = .int .i64 ((k : Int) + 1) ∧ Lo [] w [] wr ∧ Hid (Fs.leastG (nv s) (I.toNat - k) ((k : Int) + 1) = X)) (fun i _ => 200 - (intOf i).toNat)
  case atStart => exact ⟨0, by omega, rfl, S0.out, Lib.hid HX0.out⟩
  case round =>
    obtain ⟨k, hk, rfl, hS, HG⟩ := hrel
    have S := Lib.hid hS
    clear hS S0 HX0
    have cI : wr.cell? ⟨B, 2, none⟩ = some (.int .i64 I) := (HB.out _ _ S.out).cell 2 _ rfl
    by_cases hlt : (k : Int) + 1 ≤ I
    · have e1 : I.toNat - k = (I.toNat - (k + 1)) + 1 := by omega
      rw [e1, Fs.leastG] at HG
      have HII := Lib.hid (fun (W : World) (l : List (Nat × List Value)) (hl : Lo [] w l W) => HI.out W l ((k : Int) + 1) hl (by omega) hlt)
      generalize Fs.inoAt (nv s) ((k : Int) + 1) = x at HG HII
      by_cases hx : x.k = 0
      · rw [if_pos hx] at HG
        have gk : (x.k == 0) = true := by rw [hx]; rfl
        clear hx
        go_wp2_with (first
          | (with_reducible refine wpList_load_base (HB.out _ _ S.out).base rfl (.tmp 19) rfl rfl ?_)
          | (go_at_call 69; refine (HII.out _ _ S.out).mono ?_; rintro e w1 ⟨rfl, hb⟩; replace S := Lib.hid (S.out.below hb); clear hb cI)
          | ((with_reducible refine wpList_store_newrow (vs := inoL x) inoT ?_ (inoL_one _) rfl (.tmp 4) (.tmp 23) rfl rfl ?_ ?_ ?_); (exact rfl); (exact rfl); (exact rfl); intro W4 hP hB2 hz2; replace S := Lib.hid (S.out.made hP hB2 hz2); clear hP hB2 hz2)
          | (go_at_call 85; (with_reducible refine (must_ok _).mono ?_); rintro e w1 ⟨rfl, rfl⟩; have ck := (S.out.get 0 _ rfl).cell 0 _ rfl))
        exact HE.out _ _ _ S.out HG.out.symm
      · rw [if_neg hx] at HG
        have gk : (x.k == 0) = false := by simpa using hx
        clear hx
        go_wp2_with (first
          | (with_reducible refine wpList_load_base (HB.out _ _ S.out).base rfl (.tmp 19) rfl rfl ?_)
          | (go_at_call 69; refine (HII.out _ _ S.out).mono ?_; rintro e w1 ⟨rfl, hb⟩; replace S := Lib.hid (S.out.below hb); clear hb cI)
          | ((with_reducible refine wpList_store_newrow (vs := inoL x) inoT ?_ (inoL_one _) rfl (.tmp 4) (.tmp 23) rfl rfl ?_ ?_ ?_); (exact rfl); (exact rfl); (exact rfl); intro W4 hP hB2 hz2; replace S := Lib.hid (S.out.made hP hB2 hz2); clear hP hB2 hz2)
          | (go_at_call 85; (with_reducible refine (must_ok _).mono ?_); rintro e w1 ⟨rfl, rfl⟩; have ck := (S.out.get 0 _ rfl).cell 0 _ rfl))
        go_roundw
        case rel => exact ⟨k + 1, by omega, by go_num, S.out.cut 0, by rw [show ((k + 1 : Nat) : Int) + 1 = (k : Int) + 1 + 1 by omega]; exact HG⟩
        case measure => simp [intOf]; omega
    · have e1 : I.toNat - k = 0 := by omega
      rw [e1, Fs.leastG] at HG
      go_wp2_with (go_at_call 19; refine (HF.out _ _ S.out HG.out.symm).mono ?_; rintro e w1 ⟨rfl, hR⟩)
      exact ⟨rfl, hR⟩
end Go.Proofs.YtncmihikpcdgoaaGreat

namespace Go.Proofs.YtncmihikpcdgoaaGreat
open Go.RowKit Go.Shelf
attribute [local go_sem] Oper.semAt_some
/-- the four variables, and the function value over them -/
structure Those (w : World) (s : Nat) (on1 : Bool) (a b : Int) (v : Value) : Prop where
  on1 : Boxed w s 4 (.bool on1)
  lo : Boxed w (s + 1) 3 (.int .i64 a)
  hi : Boxed w (s + 2) 3 (.int .i64 b)
  l : Boxed w (s + 3) 101 v
def thoseV (s : Nat) : Value := .func (.func 143) #[] #[.pointer (some ⟨s + 1, 0, none⟩), .pointer (some ⟨s + 2, 0, none⟩), .pointer (some ⟨s + 3, 0, none⟩), .pointer (some ⟨s, 0, none⟩)]
set_option maxRecDepth 100000 in
set_option maxHeartbeats 1000000 in
theorem those_any (on1 : Bool) (a b : Int) (A : Option Addr) (n c : Nat) (w : World) (hn : n ≤ 1000) :
    Calls Tryz.prog 108 #[.bool on1, .int .i64 a, .int .i64 b, .slice A n c] w fun e w' => e = .returned (thoseV w.heap.size) ∧ Those w' w.heap.size on1 (max a 0) (min b ((n : Int) * 512)) (.slice A n c) ∧ Below w.heap.size w w' ∧ w'.heap.size = w.heap.size + 4 := by
  go_enter Tryz.func108, Tryz.ntmps108
  go_wp2
  go_region
  have e1 : (if a < 0 then 0 else a) = max a 0 := by split <;> omega
  have e2 : (if (n : Int) * 512 < b then (n : Int) * 512 else b) = min b ((n : Int) * 512) := by split <;> omega
  try rw [e1, e2]
  clear e1 e2
  obtain ⟨A0, hA0⟩ : ∃ x, max a 0 = x := ⟨_, rfl⟩
  obtain ⟨B0, hB0⟩ : ∃ x, min b ((n : Int) * 512) = x := ⟨_, rfl⟩
  rw [hA0, hB0]
  have HA0 := Lib.hid hA0; clear hA0
  have HB0 := Lib.hid hB0; clear hB0
  go_wp2
  go_ret
  rw [HA0.out, HB0.out]
  refine ⟨rfl, ⟨?_, ?_, ?_, ?_⟩, ?_, ?_⟩
  · exact (((Boxed.new w _ _).alloc _).alloc _).alloc _
  · have := ((Boxed.new (w.alloc (.cells #[.bool on1] 4)) 3 (.int .i64 (A0))).alloc (.cells #[.int .i64 B0] 3)).alloc (.cells #[.slice A n c] 101)
    rw [World.size_alloc] at this
    exact this
  · have := (Boxed.new ((w.alloc (.cells #[.bool on1] 4)).alloc (.cells #[.int .i64 (A0)] 3)) 3 (.int .i64 B0)).alloc (.cells #[.slice A n c] 101)
    rw [World.size_alloc, World.size_alloc] at this
    exact this
  · have := Boxed.new (((w.alloc (.cells #[.bool on1] 4)).alloc (.cells #[.int .i64 (A0)] 3)).alloc (.cells #[.int .i64 B0] 3)) 101 (.slice A n c)
    rw [World.size_alloc, World.size_alloc, World.size_alloc] at this
    exact this
  · exact (((((Below.refl _ w).alloc (Nat.le_refl _) _).alloc (by simp) _).alloc (by simp; omega) _).alloc (by simp; omega) _).trans (bbelow_drewN _ _ 1)
  · simp
/-- what a round that goes on must keep: the four variables, and the pages -/
structure KeepsT (s : Nat) (A : Option Addr) (n : Nat) (W W' : World) : Prop where
  size : W.heap.size ≤ W'.heap.size
  vars : ∀ k, s ≤ k → k < s + 4 → W'.heap[k]? = W.heap[k]?
  pages : 0 < n → ∀ b off, A = some ⟨b, off, none⟩ → W'.heap[b]? = W.heap[b]?
set_option maxRecDepth 100000 in
theorem KeepsT.refl (s : Nat) (A : Option Addr) (n : Nat) (W : World) : KeepsT s A n W W := ⟨Nat.le_refl _, fun _ _ _ => rfl, fun _ _ _ _ => rfl⟩
set_option maxRecDepth 100000 in
theorem KeepsT.trans {s : Nat} {A : Option Addr} {n : Nat} {X Y Z : World} (h : KeepsT s A n X Y) (k : KeepsT s A n Y Z) : KeepsT s A n X Z :=
  ⟨Nat.le_trans h.size k.size, fun i h1 h2 => (k.vars i h1 h2).trans (h.vars i h1 h2), fun h0 b off e => (k.pages h0 b off e).trans (h.pages h0 b off e)⟩
set_option maxRecDepth 100000 in
theorem KeepsT.drewN (s : Nat) (A : Option Addr) (n : Nat) (W : World) (m : Nat) : KeepsT s A n W (W.drewN m) := ⟨Nat.le_refl _, fun _ _ _ => rfl, fun _ _ _ _ => rfl⟩
set_option maxRecDepth 100000 in
theorem KeepsT.putObj {s B : Nat} {A : Option Addr} {n : Nat} (hB : s + 4 ≤ B) (hA : 0 < n → ∀ b off, A = some ⟨b, off, none⟩ → b < B) (W : World) (l : Nat) (o o' : Obj) (hl : B ≤ l) (_ : W.heap[l]? = some o) (_ : o.isCells = false) (_ : o.isWalk = false) : KeepsT s A n W (W.putObj l o') :=
  ⟨by simp, fun k _ h2 => World.putObj_heap_other (by omega), fun h0 b off e => World.putObj_heap_other (by have := hA h0 b off e; omega)⟩
set_option maxRecDepth 100000 in
theorem Those.keep {W W' : World} {s : Nat} {A : Option Addr} {n : Nat} {on1 : Bool} {a b : Int} {v : Value} (h : Those W s on1 a b v) (k : KeepsT s A n W W') : Those W' s on1 a b v where
  on1 := (k.vars s (Nat.le_refl _) (by omega)).trans h.on1
  lo := (k.vars (s + 1) (by omega) (by omega)).trans h.lo
  hi := (k.vars (s + 2) (by omega) (by omega)).trans h.hi
  l := (k.vars (s + 3) (by omega) (by omega)).trans h.l
set_option maxRecDepth 100000 in
theorem Row.keepT {W W' : World} {s : Nat} {A : Option Addr} {n : Nat} {bs : List UInt8} (h : Row W A n bs) (k : KeepsT s A n W W') : Row W' A n bs :=
  h.keep k.size fun h0 b off e _ => k.pages h0 b off e
set_option maxRecDepth 100000 in
theorem AbidesFrom.drewN {β : Type} {B : Nat} {J : β → World → Prop} (h : AbidesFrom B J) {x : β} {W : World} (hj : J x W) (m : Nat) : J x (W.drewN m) :=
  h x W (W.drewN m) none hj ⟨rfl, rfl, rfl, Nat.le_refl _, fun _ _ _ => rfl⟩ (fun r e => by cases e)
end Go.Proofs.YtncmihikpcdgoaaGreat
