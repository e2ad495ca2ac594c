/- Texts of the proof. -/
import Derived.Test.YtmpfcgjjejlhdaaGreatBah
import Derived.Test.YtmpfcgjjejlhdaaGreatBaf
set_option maxRecDepth 100000
set_option maxHeartbeats 16000000
namespace Go.Proofs.YtmpfcgjjejlhdaaGreat
section
open Dk (zeros zeros_length)
open Go.RowKit
open Ii (Ino)
theorem put_0 (p : List UInt8) (x : Ino) (w : World) (hp : p.length = 64) :
    Calls Tryz.prog 84 #[pageV p, .int .i64 0, inoV x] w fun e w' => e = .returned (pageV (Ii.putN p 0 x)) ∧ Below w.heap.size w w' := by
  have hs := putS_box w p x 47 hp
  rw [zeroCells_def] at hs
  have HS := Lib.hid hs; clear hs
  have HL := Lib.hid (Ii.putN_length p 0 x hp (by decide))
  clear hp
  unfold pageV inoV
  go_enter Tryz.func84, Tryz.ntmps84
  go_wp2_with fail
  refine (isThere_yes _ _ (by decide) (by decide)).mono ?_
  rintro e w1 ⟨rfl, hw⟩
  have S : Hid (PutS w p zeros x w1) := Lib.hid (by rw [← hw]; exact HS.out)
  clear hw HS
  have hsl : (Instr.sliceAt 97 (.pointer (some ⟨w.heap.size, 0, none⟩)) (some (.int .i64 0)) (some (.int .i64 32)) none).run Tryz.prog w1 = .ok (.slice (some ⟨w.heap.size, 0, none⟩) 32 64) w1 := run_slice_page w1 w.heap.size 0 32 (by decide) (by decide)
  go_wp2_with (first
    | ((with_reducible refine wpList_clear_put S.out 0 (by decide) 64 rfl (.tmp 19) _ rfl rfl rfl rfl ?_ ?_); (exact rfl); clear hsl; intro W2 S2; replace S := Lib.hid S2; clear S2; have hc := S.out.ino.cell 0 _ rfl)
    | (with_reducible refine wpList_load_page S.out.page rfl (.tmp 3) rfl rfl ?_)
    | (go_at_call 96; refine (set_len _ _ _ _ _ S.out.page.len (by decide) (by decide)).mono ?_; rintro e w' ⟨⟨rfl, hl⟩, hb⟩; have L := Lib.hid hl; clear hl; clear hc; replace S := Lib.hid (S.out.call hb); clear hb)
    | ((with_reducible refine wpList_store_put S.out L.out rfl (.tmp 3) (.tmp 25) rfl rfl ?_ ?_); (exact rfl); intro W2 S2; replace S := Lib.hid S2; clear S2 L; have hc := S.out.ino.cell 1 _ rfl)
    | ((with_reducible refine wpList_store_put S.out L.out rfl (.tmp 3) (.tmp 31) rfl rfl ?_ ?_); (exact rfl); intro W2 S2; replace S := Lib.hid S2; clear S2 L; have hc := S.out.ino.cell 2 _ rfl)
    | ((with_reducible refine wpList_store_put S.out L.out rfl (.tmp 3) (.tmp 37) rfl rfl ?_ ?_); (exact rfl); intro W2 S2; replace S := Lib.hid S2; clear S2 L; have hc := S.out.ino.cell 3 _ rfl)
    | ((with_reducible refine wpList_store_put S.out L.out rfl (.tmp 3) (.tmp 43) rfl rfl ?_ ?_); (exact rfl); intro W2 S2; replace S := Lib.hid S2; clear S2 L; have hc := S.out.ino.cell 4 _ rfl)
    | ((with_reducible refine wpList_store_put S.out L.out rfl (.tmp 3) (.tmp 49) rfl rfl ?_ ?_); (exact rfl); intro W2 S2; replace S := Lib.hid S2; clear S2 L)
    | (with_reducible refine wpList_load_four S.out.ino rfl (.tmp 50) rfl rfl ?_))
  replace S : Hid (PutS w (Ii.dirP p 0 x 0) zeros x W2) := S
  go_loopw [52] (fun i wr => ∃ k : Nat, k ≤ 4 ∧ i = .int .i64 (k : Int) ∧ PutS w (Ii.dirP p 0 x k) zeros x wr) (fun i _ => 4 - (intOf i).toNat)
  case atStart => exact ⟨0, by omega, rfl, S.out⟩
  case round =>
    clear S
    obtain ⟨k, hk, rfl, hS⟩ := hrel
    have hk : k = 0 ∨ k = 1 ∨ k = 2 ∨ k = 3 ∨ k = 4 := by omega
    rcases hk with rfl | rfl | rfl | rfl | rfl
    · have S := Lib.hid hS
      clear hS
      have hix := fun W => index_four0 x W
      go_wp2_with (first
      | (with_reducible refine wpList_load_page S.out.page rfl (.tmp 3) rfl rfl ?_)
      | (go_at_call 96; refine (set_len _ _ _ _ _ S.out.page.len (by decide) (by decide)).mono ?_; rintro e w' ⟨⟨rfl, hl⟩, hb⟩; have L := Lib.hid hl; clear hl; replace S := Lib.hid (S.out.call hb); clear hb)
      | ((with_reducible refine wpList_store_put S.out L.out rfl (.tmp 3) (.tmp 63) rfl rfl ?_ ?_); (exact rfl); intro W2 S2; replace S := Lib.hid S2; clear S2 L))
      go_roundw
      case rel => exact ⟨1, by omega, rfl, S.out⟩
      case measure => simp [intOf]
    · have S := Lib.hid hS
      clear hS
      have hix := fun W => index_four1 x W
      go_wp2_with (first
      | (with_reducible refine wpList_load_page S.out.page rfl (.tmp 3) rfl rfl ?_)
      | (go_at_call 96; refine (set_len _ _ _ _ _ S.out.page.len (by decide) (by decide)).mono ?_; rintro e w' ⟨⟨rfl, hl⟩, hb⟩; have L := Lib.hid hl; clear hl; replace S := Lib.hid (S.out.call hb); clear hb)
      | ((with_reducible refine wpList_store_put S.out L.out rfl (.tmp 3) (.tmp 63) rfl rfl ?_ ?_); (exact rfl); intro W2 S2; replace S := Lib.hid S2; clear S2 L))
      go_roundw
      case rel => exact ⟨2, by omega, rfl, S.out⟩
      case measure => simp [intOf]
    · have S := Lib.hid hS
      clear hS
      have hix := fun W => index_four2 x W
      go_wp2_with (first
      | (with_reducible refine wpList_load_page S.out.page rfl (.tmp 3) rfl rfl ?_)
      | (go_at_call 96; refine (set_len _ _ _ _ _ S.out.page.len (by decide) (by decide)).mono ?_; rintro e w' ⟨⟨rfl, hl⟩, hb⟩; have L := Lib.hid hl; clear hl; replace S := Lib.hid (S.out.call hb); clear hb)
      | ((with_reducible refine wpList_store_put S.out L.out rfl (.tmp 3) (.tmp 63) rfl rfl ?_ ?_); (exact rfl); intro W2 S2; replace S := Lib.hid S2; clear S2 L))
      go_roundw
      case rel => exact ⟨3, by omega, rfl, S.out⟩
      case measure => simp [intOf]
    · have S := Lib.hid hS
      clear hS
      have hix := fun W => index_four3 x W
      go_wp2_with (first
      | (with_reducible refine wpList_load_page S.out.page rfl (.tmp 3) rfl rfl ?_)
      | (go_at_call 96; refine (set_len _ _ _ _ _ S.out.page.len (by decide) (by decide)).mono ?_; rintro e w' ⟨⟨rfl, hl⟩, hb⟩; have L := Lib.hid hl; clear hl; replace S := Lib.hid (S.out.call hb); clear hb)
      | ((with_reducible refine wpList_store_put S.out L.out rfl (.tmp 3) (.tmp 63) rfl rfl ?_ ?_); (exact rfl); intro W2 S2; replace S := Lib.hid S2; clear S2 L))
      go_roundw
      case rel => exact ⟨4, by omega, rfl, S.out⟩
      case measure => simp [intOf]
    · have S := Lib.hid hS
      clear hS
      have hc := S.out.ino.cell 9 _ rfl
      go_wp2_with (first
      | (with_reducible refine wpList_load_page S.out.page rfl (.tmp 3) rfl rfl ?_)
      | (go_at_call 96; refine (set_len _ _ _ _ _ S.out.page.len (by decide) (by decide)).mono ?_; rintro e w' ⟨⟨rfl, hl⟩, hb⟩; have L := Lib.hid hl; clear hl; clear hc; replace S := Lib.hid (S.out.call hb); clear hb)
      | ((with_reducible refine wpList_store_put S.out L.out rfl (.tmp 3) (.tmp 70) rfl rfl ?_ ?_); (exact rfl); intro W2 S2; replace S := Lib.hid S2; clear S2 L; have hc := S.out.ino.cell 10 _ rfl)
      | ((with_reducible refine wpList_store_page S.out.out HL.out rfl (.tmp 6) (.tmp 76) rfl rfl ?_ ?_); (exact rfl)))
      exact bodyPost_ret (results_page _ 6 rfl _ (S.out.back HL.out).1 rfl) rfl ⟨rfl, (S.out.back HL.out).2⟩
theorem put_1 (p : List UInt8) (x : Ino) (w : World) (hp : p.length = 64) :
    Calls Tryz.prog 84 #[pageV p, .int .i64 1, inoV x] w fun e w' => e = .returned (pageV (Ii.putN p 32 x)) ∧ Below w.heap.size w w' := by
  have hs := putS_box w p x 47 hp
  rw [zeroCells_def] at hs
  have HS := Lib.hid hs; clear hs
  have HL := Lib.hid (Ii.putN_length p 32 x hp (by decide))
  clear hp
  unfold pageV inoV
  go_enter Tryz.func84, Tryz.ntmps84
  go_wp2_with fail
  refine (isThere_yes _ _ (by decide) (by decide)).mono ?_
  rintro e w1 ⟨rfl, hw⟩
  have S : Hid (PutS w p zeros x w1) := Lib.hid (by rw [← hw]; exact HS.out)
  clear hw HS
  have hsl : (Instr.sliceAt 97 (.pointer (some ⟨w.heap.size, 0, none⟩)) (some (.int .i64 32)) (some (.int .i64 64)) none).run Tryz.prog w1 = .ok (.slice (some ⟨w.heap.size, 32, none⟩) 32 32) w1 := run_slice_page w1 w.heap.size 32 32 (by decide) (by decide)
  go_wp2_with (first
    | ((with_reducible refine wpList_clear_put S.out 32 (by decide) 32 rfl (.tmp 19) _ rfl rfl rfl rfl ?_ ?_); (exact rfl); clear hsl; intro W2 S2; replace S := Lib.hid S2; clear S2; have hc := S.out.ino.cell 0 _ rfl)
    | (with_reducible refine wpList_load_page S.out.page rfl (.tmp 3) rfl rfl ?_)
    | (go_at_call 96; refine (set_len _ _ _ _ _ S.out.page.len (by decide) (by decide)).mono ?_; rintro e w' ⟨⟨rfl, hl⟩, hb⟩; have L := Lib.hid hl; clear hl; clear hc; replace S := Lib.hid (S.out.call hb); clear hb)
    | ((with_reducible refine wpList_store_put S.out L.out rfl (.tmp 3) (.tmp 25) rfl rfl ?_ ?_); (exact rfl); intro W2 S2; replace S := Lib.hid S2; clear S2 L; have hc := S.out.ino.cell 1 _ rfl)
    | ((with_reducible refine wpList_store_put S.out L.out rfl (.tmp 3) (.tmp 31) rfl rfl ?_ ?_); (exact rfl); intro W2 S2; replace S := Lib.hid S2; clear S2 L; have hc := S.out.ino.cell 2 _ rfl)
    | ((with_reducible refine wpList_store_put S.out L.out rfl (.tmp 3) (.tmp 37) rfl rfl ?_ ?_); (exact rfl); intro W2 S2; replace S := Lib.hid S2; clear S2 L; have hc := S.out.ino.cell 3 _ rfl)
    | ((with_reducible refine wpList_store_put S.out L.out rfl (.tmp 3) (.tmp 43) rfl rfl ?_ ?_); (exact rfl); intro W2 S2; replace S := Lib.hid S2; clear S2 L; have hc := S.out.ino.cell 4 _ rfl)
    | ((with_reducible refine wpList_store_put S.out L.out rfl (.tmp 3) (.tmp 49) rfl rfl ?_ ?_); (exact rfl); intro W2 S2; replace S := Lib.hid S2; clear S2 L)
    | (with_reducible refine wpList_load_four S.out.ino rfl (.tmp 50) rfl rfl ?_))
  replace S : Hid (PutS w (Ii.dirP p 32 x 0) zeros x W2) := S
  go_loopw [52] (fun i wr => ∃ k : Nat, k ≤ 4 ∧ i = .int .i64 (k : Int) ∧ PutS w (Ii.dirP p 32 x k) zeros x wr) (fun i _ => 4 - (intOf i).toNat)
  case atStart => exact ⟨0, by omega, rfl, S.out⟩
  case round =>
    clear S
    obtain ⟨k, hk, rfl, hS⟩ := hrel
    have hk : k = 0 ∨ k = 1 ∨ k = 2 ∨ k = 3 ∨ k = 4 := by omega
    rcases hk with rfl | rfl | rfl | rfl | rfl
    · have S := Lib.hid hS
      clear hS
      have hix := fun W => index_four0 x W
      go_wp2_with (first
      | (with_reducible refine wpList_load_page S.out.page rfl (.tmp 3) rfl rfl ?_)
      | (go_at_call 96; refine (set_len _ _ _ _ _ S.out.page.len (by decide) (by decide)).mono ?_; rintro e w' ⟨⟨rfl, hl⟩, hb⟩; have L := Lib.hid hl; clear hl; replace S := Lib.hid (S.out.call hb); clear hb)
      | ((with_reducible refine wpList_store_put S.out L.out rfl (.tmp 3) (.tmp 63) rfl rfl ?_ ?_); (exact rfl); intro W2 S2; replace S := Lib.hid S2; clear S2 L))
      go_roundw
      case rel => exact ⟨1, by omega, rfl, S.out⟩
      case measure => simp [intOf]
    · have S := Lib.hid hS
      clear hS
      have hix := fun W => index_four1 x W
      go_wp2_with (first
      | (with_reducible refine wpList_load_page S.out.page rfl (.tmp 3) rfl rfl ?_)
      | (go_at_call 96; refine (set_len _ _ _ _ _ S.out.page.len (by decide) (by decide)).mono ?_; rintro e w' ⟨⟨rfl, hl⟩, hb⟩; have L := Lib.hid hl; clear hl; replace S := Lib.hid (S.out.call hb); clear hb)
      | ((with_reducible refine wpList_store_put S.out L.out rfl (.tmp 3) (.tmp 63) rfl rfl ?_ ?_); (exact rfl); intro W2 S2; replace S := Lib.hid S2; clear S2 L))
      go_roundw
      case rel => exact ⟨2, by omega, rfl, S.out⟩
      case measure => simp [intOf]
    · have S := Lib.hid hS
      clear hS
      have hix := fun W => index_four2 x W
      go_wp2_with (first
      | (with_reducible refine wpList_load_page S.out.page rfl (.tmp 3) rfl rfl ?_)
      | (go_at_call 96; refine (set_len _ _ _ _ _ S.out.page.len (by decide) (by decide)).mono ?_; rintro e w' ⟨⟨rfl, hl⟩, hb⟩; have L := Lib.hid hl; clear hl; replace S := Lib.hid (S.out.call hb); clear hb)
      | ((with_reducible refine wpList_store_put S.out L.out rfl (.tmp 3) (.tmp 63) rfl rfl ?_ ?_); (exact rfl); intro W2 S2; replace S := Lib.hid S2; clear S2 L))
      go_roundw
      case rel => exact ⟨3, by omega, rfl, S.out⟩
      case measure => simp [intOf]
    · have S := Lib.hid hS
      clear hS
      have hix := fun W => index_four3 x W
      go_wp2_with (first
      | (with_reducible refine wpList_load_page S.out.page rfl (.tmp 3) rfl rfl ?_)
      | (go_at_call 96; refine (set_len _ _ _ _ _ S.out.page.len (by decide) (by decide)).mono ?_; rintro e w' ⟨⟨rfl, hl⟩, hb⟩; have L := Lib.hid hl; clear hl; replace S := Lib.hid (S.out.call hb); clear hb)
      | ((with_reducible refine wpList_store_put S.out L.out rfl (.tmp 3) (.tmp 63) rfl rfl ?_ ?_); (exact rfl); intro W2 S2; replace S := Lib.hid S2; clear S2 L))
      go_roundw
      case rel => exact ⟨4, by omega, rfl, S.out⟩
      case measure => simp [intOf]
    · have S := Lib.hid hS
      clear hS
      have hc := S.out.ino.cell 9 _ rfl
      go_wp2_with (first
      | (with_reducible refine wpList_load_page S.out.page rfl (.tmp 3) rfl rfl ?_)
      | (go_at_call 96; refine (set_len _ _ _ _ _ S.out.page.len (by decide) (by decide)).mono ?_; rintro e w' ⟨⟨rfl, hl⟩, hb⟩; have L := Lib.hid hl; clear hl; clear hc; replace S := Lib.hid (S.out.call hb); clear hb)
      | ((with_reducible refine wpList_store_put S.out L.out rfl (.tmp 3) (.tmp 70) rfl rfl ?_ ?_); (exact rfl); intro W2 S2; replace S := Lib.hid S2; clear S2 L; have hc := S.out.ino.cell 10 _ rfl)
      | ((with_reducible refine wpList_store_page S.out.out HL.out rfl (.tmp 6) (.tmp 76) rfl rfl ?_ ?_); (exact rfl)))
      exact bodyPost_ret (results_page _ 6 rfl _ (S.out.back HL.out).1 rfl) rfl ⟨rfl, (S.out.back HL.out).2⟩
end

section
open Dk (zeros zeros_length)
open Go.RowKit
open Ii (Ino)
structure BxS (w0 : World) (p : List UInt8) (W : World) : Prop where
  page : PageAt W w0.heap.size p
  out : RowAt W (w0.heap.size + 1) (inoL Ii.zero)
  below : Below w0.heap.size w0 W
theorem BxS.call {w0 : World} {p : List UInt8} {W W' : World} (k : BxS w0 p W) (hb : Below W.heap.size W W') : BxS w0 p W' :=
  ⟨k.page.step hb, RowAt.step k.out hb, k.below.trans (hb.mono k.below.size)⟩
theorem BxS.drew {w0 : World} {p : List UInt8} {W : World} (k : BxS w0 p W) : BxS w0 p W.drew := ⟨k.page.drew, k.out.drew, k.below.drew⟩
theorem bxS_box (w : World) (p : List UInt8) (t : TypeId) (hp : p.length = 64) : BxS w p ((w.alloc (.cells (byteVals p).toArray 97)).alloc (.cells (inoL Ii.zero).toArray t)) where
  page := (pageAt_new w p _ hp).alloc _
  out := by
    have h := rowAt_new (w.alloc (.cells (byteVals p).toArray 97)) (inoL Ii.zero) t
    rw [World.size_alloc] at h
    exact h
  below := ((Below.refl _ _).alloc (Nat.le_refl _) _).alloc (by simp) _
theorem RowAt.setOther {w : World} {b : Nat} {vs : List Value} (h : RowAt w b vs) (b' i : Nat) (v : Value) (hb : b ≠ b') : RowAt (w.setCell ⟨b', i, none⟩ v) b vs :=
  ⟨fun j u hu => by rw [World.cell?_setCell_other _ _ _ _ (fun q => hb (by injection q with q; exact q.symm))]; exact h.range j u hu,
    fun j hj => by rw [World.cell?_setCell_other _ _ _ _ (fun q => hb (by injection q with q; exact q.symm)), World.frozen?_setCell]; exact h.free j hj⟩
theorem RowAt.setOne {w : World} {b : Nat} {vs : List Value} (h : RowAt w b vs) (i : Nat) (v : Value) (hi : i < vs.length) : RowAt (w.setCell ⟨b, i, none⟩ v) b (vs.set i v) where
  range := fun j u hu => by
    rw [Nat.zero_add]
    rw [List.getElem?_set] at hu
    by_cases e : i = j
    · subst e
      rw [if_pos rfl, if_pos hi] at hu
      injection hu with hu
      rw [← hu]
      exact World.cell?_setCell_same' _ _ _ (by rw [h.cell i _ (List.getElem?_eq_getElem hi)]; rfl)
    · rw [if_neg e] at hu
      rw [World.cell?_setCell_other _ _ _ _ (fun q => e (by injection q))]
      exact h.cell j u hu
  free := fun j hj => by
    rw [List.length_set] at hj
    rw [Nat.zero_add]
    refine ⟨?_, by rw [World.frozen?_setCell]; exact h.frozen j hj⟩
    by_cases e : i = j
    · subst e
      rw [World.cell?_setCell_same' _ _ _ (by rw [h.cell i _ (List.getElem?_eq_getElem hi)]; rfl)]; rfl
    · rw [World.cell?_setCell_other _ _ _ _ (fun q => e (by injection q)), h.cell j _ (List.getElem?_eq_getElem hj)]; rfl
theorem BxS.setOut {w0 : World} {p : List UInt8} {W : World} (k : BxS w0 p W) (g i : Nat) (v : Value) (hg : w0.heap.size + 1 < g) : BxS w0 p (W.setCell ⟨g, i, none⟩ v) :=
  ⟨k.page.set_other _ _ _ (by omega), k.out.setOther _ _ _ (by omega), k.below.setCell (by show w0.heap.size ≤ g; omega) _⟩
theorem BxS.back {w0 : World} {p : List UInt8} {W : World} (k : BxS w0 p W) (y : Ino) : RowAt (W.setCells (w0.heap.size + 1) 0 (inoL y)) (w0.heap.size + 1) (inoL y) ∧ Below w0.heap.size w0 (W.setCells (w0.heap.size + 1) 0 (inoL y)) :=
  ⟨k.out.put (inoL y) rfl, below_setCells _ (by omega) _ _ _ k.below⟩
def GtS (w0 : World) (p : List UInt8) (y : Ino) (s : Option (Nat × Bool)) (W : World) : Prop :=
  BxS w0 p W ∧ match s with
    | none => True
    | some (g, b) => w0.heap.size + 1 < g ∧ RowAt W g (inoL (if b = true then y else Ii.zero))
theorem GtS.call {w0 : World} {p : List UInt8} {y : Ino} {s : Option (Nat × Bool)} {W W' : World} (k : GtS w0 p y s W) (hb : Below W.heap.size W W') : GtS w0 p y s W' := by
  refine ⟨BxS.call k.1 hb, ?_⟩
  match s, k with
  | none, _ => trivial
  | some (g, b), k => exact ⟨k.2.1, RowAt.step k.2.2 hb⟩
theorem GtS.alloc {w0 : World} {p : List UInt8} {y : Ino} {W : World} {t : TypeId} (k : BxS w0 p W) : GtS w0 p y (some (W.heap.size, false)) (W.alloc (.cells (inoL Ii.zero).toArray t)) :=
  ⟨⟨k.page.alloc _, k.out.alloc _, k.below.alloc k.below.size _⟩, k.out.lt, rowAt_new W (inoL Ii.zero) t⟩
theorem GtS.put {w0 : World} {p : List UInt8} {y : Ino} {g : Nat} {b : Bool} {W : World} (k : GtS w0 p y (some (g, b)) W) : GtS w0 p y (some (g, true)) (W.setCells g 0 (inoL y)) := by
  obtain ⟨k1, k2, k3⟩ := k
  exact ⟨⟨k1.page.put_other _ _ _ (by omega), k1.out.put_other _ _ _ (by omega), below_setCells _ (by omega) _ _ _ k1.below⟩, k2, k3.put (inoL y) rfl⟩
theorem results_row1 {t : TypeId} {n : Nat} (ht : RowT t n) (fn : Func) (s : Nat) (hf : fn.results = #[.cell s t]) {w : World} {b : Nat} {vs : List Value} (tmps : Array Value) (k : RowAt w b vs) (hl : vs.length = n) (hs : tmps.getD s undef = .pointer (some ⟨b, 0, none⟩)) :
    (results fn tmps).run Tryz.prog w = .ok (.agg vs.toArray) w := results_row ht fn s hf tmps k hl hs
end

section
open Dk (zeros zeros_length)
open Go.RowKit
open Ii (Ino)
theorem iget_0 (p : List UInt8) (w : World) (hp : p.length = 64) :
    Calls Tryz.prog 126 #[pageV p, .int .i64 0] w fun e w' => e = .returned (inoV (Ii.getI p 0)) ∧ Below w.heap.size w w' := by
  have HS := Lib.hid (bxS_box w p 47 hp)
  have Hgk := Lib.hid (fun (w : World) => get_any p 0 1 w hp (by decide) (by decide))
  have Hgp := Lib.hid (fun (w : World) => get_any p 2 2 w hp (by decide) (by decide))
  have Hgu := Lib.hid (fun (w : World) => get_any p 4 2 w hp (by decide) (by decide))
  have Hgl := Lib.hid (fun (w : World) => get_any p 6 2 w hp (by decide) (by decide))
  have Hgs := Lib.hid (fun (w : World) => get_any p 8 4 w hp (by decide) (by decide))
  have Hga := Lib.hid (fun (w : World) => get_any p 12 2 w hp (by decide) (by decide))
  have Hgb := Lib.hid (fun (w : World) => get_any p 14 2 w hp (by decide) (by decide))
  have Hgc := Lib.hid (fun (w : World) => get_any p 16 2 w hp (by decide) (by decide))
  have Hgd := Lib.hid (fun (w : World) => get_any p 18 2 w hp (by decide) (by decide))
  have Hge := Lib.hid (fun (w : World) => get_any p 20 2 w hp (by decide) (by decide))
  have Hgf := Lib.hid (fun (w : World) => get_any p 22 2 w hp (by decide) (by decide))
  have HE : Hid (Ii.getI p 0 = ⟨Pg.getN p 0 1, Pg.getN p 2 2, Pg.getN p 4 2, Pg.getN p 6 2, Pg.getN p 8 4, Pg.getN p 12 2, Pg.getN p 14 2, Pg.getN p 16 2, Pg.getN p 18 2, Pg.getN p 20 2, Pg.getN p 22 2⟩) := Lib.hid rfl
  rw [HE.out]
  clear HE hp
  generalize Pg.getN p 0 1 = gk at Hgk ⊢
  generalize Pg.getN p 2 2 = gp at Hgp ⊢
  generalize Pg.getN p 4 2 = gu at Hgu ⊢
  generalize Pg.getN p 6 2 = gl at Hgl ⊢
  generalize Pg.getN p 8 4 = gs at Hgs ⊢
  generalize Pg.getN p 12 2 = ga at Hga ⊢
  generalize Pg.getN p 14 2 = gb at Hgb ⊢
  generalize Pg.getN p 16 2 = gc at Hgc ⊢
  generalize Pg.getN p 18 2 = gd at Hgd ⊢
  generalize Pg.getN p 20 2 = ge at Hge ⊢
  generalize Pg.getN p 22 2 = gf at Hgf ⊢
  obtain ⟨y0, HY⟩ : ∃ y0 : Ino, Hid (y0 = ⟨gk, gp, gu, gl, gs, 0, 0, 0, 0, ge, gf⟩) := ⟨_, Lib.hid rfl⟩
  unfold pageV
  go_enter Tryz.func126, Tryz.ntmps126
  go_wp2_with fail
  refine (isThere_yes _ _ (by decide) (by decide)).mono ?_
  rintro e w1 ⟨rfl, hw⟩
  have S : Hid (BxS w p w1) := Lib.hid (by rw [← hw]; exact HS.out)
  clear hw HS
  go_wp2_with fail
  refine wp_region_lin (GtS w p y0) (fun i => i == 29 || i == 30) (fun i => [pageV p, .int .i64 0, .int .i64 0, .int .i64 gk, pageV p, .int .i64 0, .int .i64 2, .int .i64 gp, pageV p, .int .i64 0, .int .i64 4, .int .i64 gu, pageV p, .int .i64 0, .int .i64 6, .int .i64 gl, pageV p, .int .i64 0, .int .i64 8, .int .i64 gs, pageV p, .int .i64 0, .int .i64 20, .int .i64 ge, pageV p, .int .i64 0, .int .i64 22, .int .i64 gf, inoV y0].getD i undef) (none) (by kernel_rfl) (by kernel_rfl) (⟨BxS.drew S.out, trivial⟩) ?_
  refine lin_step (i := 0) (d := some 14) (v := pageV p) rfl rfl (by kernel_rfl) (by kernel_rfl) rfl rfl (ord_page (by kernel_rfl) (.tmp 2) rfl rfl (fun _ _ hS => hS.1.page)) ?_
  (try simp only [Act.put, puA, puB, puC])
  refine lin_step (i := 1) (d := some 15) (v := .int .i64 0) rfl rfl (by kernel_rfl) (by kernel_rfl) rfl rfl (ord_value (by kernel_rfl) ?_) ?_
  · (intro _ _ _; go_simp) <;> kernel_rfl
  (try simp only [Act.put, puA, puB, puC])
  refine lin_step (i := 2) (d := some 16) (v := .int .i64 0) rfl rfl (by kernel_rfl) (by kernel_rfl) rfl rfl (ord_value (by kernel_rfl) ?_) ?_
  · (intro _ _ _; go_simp) <;> kernel_rfl
  (try simp only [Act.put, puA, puB, puC])
  refine lin_step (i := 3) (d := some 17) (v := .int .i64 gk) rfl rfl (by kernel_rfl) (by kernel_rfl) rfl rfl (ord_call (f := 142) (args := #[pageV p, .int .i64 0, .int .i64 1]) (by kernel_rfl) ?_ (fun _ W hS => (Hgk.out W).mono fun _ _ h => ⟨h.1, GtS.call hS h.2⟩)) ?_
  · intro _; go_simp
  (try simp only [Act.put, puA, puB, puC])
  refine lin_step (i := 4) (d := some 18) (v := pageV p) rfl rfl (by kernel_rfl) (by kernel_rfl) rfl rfl (ord_page (by kernel_rfl) (.tmp 2) rfl rfl (fun _ _ hS => hS.1.page)) ?_
  (try simp only [Act.put, puA, puB, puC])
  refine lin_step (i := 5) (d := some 19) (v := .int .i64 0) rfl rfl (by kernel_rfl) (by kernel_rfl) rfl rfl (ord_value (by kernel_rfl) ?_) ?_
  · (intro _ _ _; go_simp) <;> kernel_rfl
  (try simp only [Act.put, puA, puB, puC])
  refine lin_step (i := 6) (d := some 20) (v := .int .i64 2) rfl rfl (by kernel_rfl) (by kernel_rfl) rfl rfl (ord_value (by kernel_rfl) ?_) ?_
  · (intro _ _ _; go_simp) <;> kernel_rfl
  (try simp only [Act.put, puA, puB, puC])
  refine lin_step (i := 7) (d := some 21) (v := .int .i64 gp) rfl rfl (by kernel_rfl) (by kernel_rfl) rfl rfl (ord_call (f := 142) (args := #[pageV p, .int .i64 2, .int .i64 2]) (by kernel_rfl) ?_ (fun _ W hS => (Hgp.out W).mono fun _ _ h => ⟨h.1, GtS.call hS h.2⟩)) ?_
  · intro _; go_simp
  (try simp only [Act.put, puA, puB, puC])
  refine lin_step (i := 8) (d := some 22) (v := pageV p) rfl rfl (by kernel_rfl) (by kernel_rfl) rfl rfl (ord_page (by kernel_rfl) (.tmp 2) rfl rfl (fun _ _ hS => hS.1.page)) ?_
  (try simp only [Act.put, puA, puB, puC])
  refine lin_step (i := 9) (d := some 23) (v := .int .i64 0) rfl rfl (by kernel_rfl) (by kernel_rfl) rfl rfl (ord_value (by kernel_rfl) ?_) ?_
  · (intro _ _ _; go_simp) <;> kernel_rfl
  (try simp only [Act.put, puA, puB, puC])
  refine lin_step (i := 10) (d := some 24) (v := .int .i64 4) rfl rfl (by kernel_rfl) (by kernel_rfl) rfl rfl (ord_value (by kernel_rfl) ?_) ?_
  · (intro _ _ _; go_simp) <;> kernel_rfl
  (try simp only [Act.put, puA, puB, puC])
  refine lin_step (i := 11) (d := some 25) (v := .int .i64 gu) rfl rfl (by kernel_rfl) (by kernel_rfl) rfl rfl (ord_call (f := 142) (args := #[pageV p, .int .i64 4, .int .i64 2]) (by kernel_rfl) ?_ (fun _ W hS => (Hgu.out W).mono fun _ _ h => ⟨h.1, GtS.call hS h.2⟩)) ?_
  · intro _; go_simp
  (try simp only [Act.put, puA, puB, puC])
  refine lin_step (i := 12) (d := some 26) (v := pageV p) rfl rfl (by kernel_rfl) (by kernel_rfl) rfl rfl (ord_page (by kernel_rfl) (.tmp 2) rfl rfl (fun _ _ hS => hS.1.page)) ?_
  (try simp only [Act.put, puA, puB, puC])
  refine lin_step (i := 13) (d := some 27) (v := .int .i64 0) rfl rfl (by kernel_rfl) (by kernel_rfl) rfl rfl (ord_value (by kernel_rfl) ?_) ?_
  · (intro _ _ _; go_simp) <;> kernel_rfl
  (try simp only [Act.put, puA, puB, puC])
  refine lin_step (i := 14) (d := some 28) (v := .int .i64 6) rfl rfl (by kernel_rfl) (by kernel_rfl) rfl rfl (ord_value (by kernel_rfl) ?_) ?_
  · (intro _ _ _; go_simp) <;> kernel_rfl
  (try simp only [Act.put, puA, puB, puC])
  refine lin_step (i := 15) (d := some 29) (v := .int .i64 gl) rfl rfl (by kernel_rfl) (by kernel_rfl) rfl rfl (ord_call (f := 142) (args := #[pageV p, .int .i64 6, .int .i64 2]) (by kernel_rfl) ?_ (fun _ W hS => (Hgl.out W).mono fun _ _ h => ⟨h.1, GtS.call hS h.2⟩)) ?_
  · intro _; go_simp
  (try simp only [Act.put, puA, puB, puC])
  refine lin_step (i := 16) (d := some 30) (v := pageV p) rfl rfl (by kernel_rfl) (by kernel_rfl) rfl rfl (ord_page (by kernel_rfl) (.tmp 2) rfl rfl (fun _ _ hS => hS.1.page)) ?_
  (try simp only [Act.put, puA, puB, puC])
  refine lin_step (i := 17) (d := some 31) (v := .int .i64 0) rfl rfl (by kernel_rfl) (by kernel_rfl) rfl rfl (ord_value (by kernel_rfl) ?_) ?_
  · (intro _ _ _; go_simp) <;> kernel_rfl
  (try simp only [Act.put, puA, puB, puC])
  refine lin_step (i := 18) (d := some 32) (v := .int .i64 8) rfl rfl (by kernel_rfl) (by kernel_rfl) rfl rfl (ord_value (by kernel_rfl) ?_) ?_
  · (intro _ _ _; go_simp) <;> kernel_rfl
  (try simp only [Act.put, puA, puB, puC])
  refine lin_step (i := 19) (d := some 33) (v := .int .i64 gs) rfl rfl (by kernel_rfl) (by kernel_rfl) rfl rfl (ord_call (f := 142) (args := #[pageV p, .int .i64 8, .int .i64 4]) (by kernel_rfl) ?_ (fun _ W hS => (Hgs.out W).mono fun _ _ h => ⟨h.1, GtS.call hS h.2⟩)) ?_
  · intro _; go_simp
  (try simp only [Act.put, puA, puB, puC])
  refine lin_step (i := 20) (d := some 34) (v := pageV p) rfl rfl (by kernel_rfl) (by kernel_rfl) rfl rfl (ord_page (by kernel_rfl) (.tmp 2) rfl rfl (fun _ _ hS => hS.1.page)) ?_
  (try simp only [Act.put, puA, puB, puC])
  refine lin_step (i := 21) (d := some 35) (v := .int .i64 0) rfl rfl (by kernel_rfl) (by kernel_rfl) rfl rfl (ord_value (by kernel_rfl) ?_) ?_
  · (intro _ _ _; go_simp) <;> kernel_rfl
  (try simp only [Act.put, puA, puB, puC])
  refine lin_step (i := 22) (d := some 36) (v := .int .i64 20) rfl rfl (by kernel_rfl) (by kernel_rfl) rfl rfl (ord_value (by kernel_rfl) ?_) ?_
  · (intro _ _ _; go_simp) <;> kernel_rfl
  (try simp only [Act.put, puA, puB, puC])
  refine lin_step (i := 23) (d := some 37) (v := .int .i64 ge) rfl rfl (by kernel_rfl) (by kernel_rfl) rfl rfl (ord_call (f := 142) (args := #[pageV p, .int .i64 20, .int .i64 2]) (by kernel_rfl) ?_ (fun _ W hS => (Hge.out W).mono fun _ _ h => ⟨h.1, GtS.call hS h.2⟩)) ?_
  · intro _; go_simp
  (try simp only [Act.put, puA, puB, puC])
  refine lin_step (i := 24) (d := some 38) (v := pageV p) rfl rfl (by kernel_rfl) (by kernel_rfl) rfl rfl (ord_page (by kernel_rfl) (.tmp 2) rfl rfl (fun _ _ hS => hS.1.page)) ?_
  (try simp only [Act.put, puA, puB, puC])
  refine lin_step (i := 25) (d := some 39) (v := .int .i64 0) rfl rfl (by kernel_rfl) (by kernel_rfl) rfl rfl (ord_value (by kernel_rfl) ?_) ?_
  · (intro _ _ _; go_simp) <;> kernel_rfl
  (try simp only [Act.put, puA, puB, puC])
  refine lin_step (i := 26) (d := some 40) (v := .int .i64 22) rfl rfl (by kernel_rfl) (by kernel_rfl) rfl rfl (ord_value (by kernel_rfl) ?_) ?_
  · (intro _ _ _; go_simp) <;> kernel_rfl
  (try simp only [Act.put, puA, puB, puC])
  refine lin_step (i := 27) (d := some 41) (v := .int .i64 gf) rfl rfl (by kernel_rfl) (by kernel_rfl) rfl rfl (ord_call (f := 142) (args := #[pageV p, .int .i64 22, .int .i64 2]) (by kernel_rfl) ?_ (fun _ W hS => (Hgf.out W).mono fun _ _ h => ⟨h.1, GtS.call hS h.2⟩)) ?_
  · intro _; go_simp
  (try simp only [Act.put, puA, puB, puC])
  refine lin_step (i := 28) (d := some 42) (v := inoV y0) rfl rfl (by kernel_rfl) (by kernel_rfl) rfl rfl (ord_value (by kernel_rfl) ?_) ?_
  · (intro _ _ _; rw [HY.out]; go_simp) <;> rfl
  (try simp only [Act.put, puA, puB, puC])
  refine lin_turn (i := 29) (d := some 6) (fun u s => ∃ g, w.heap.size + 1 < g ∧ u = .pointer (some ⟨g, 0, none⟩) ∧ s = some (g, false)) rfl rfl (by kernel_rfl) (by kernel_rfl) rfl (by kernel_rfl) (⟨_, _, w.heap.size + 2, by omega, rfl, rfl⟩) (by kernel_rfl) (fun W hS => gives_to (v := .pointer (some ⟨W.heap.size, 0, none⟩)) (w' := W.alloc (.cells (inoL Ii.zero).toArray 47)) (by go_simp; rfl) ⟨some (W.heap.size, false), ⟨W.heap.size, hS.1.out.lt, rfl, rfl⟩, GtS.alloc hS.1⟩) ?_
  rintro _ _ ⟨g, hg, rfl, rfl⟩
  (try simp only [Act.put, puA, puB, puC])
  refine lin_turn (i := 30) (d := none) (fun u s => u = undef ∧ s = some (g, true)) rfl rfl (by kernel_rfl) (by kernel_rfl) rfl (by kernel_rfl) (⟨_, _, rfl, rfl⟩) (by kernel_rfl) (fun W hS => gives_store_row inoT hS.2.2 rfl rfl (inoL_one y0) (.tmp 6) (.tmp 42) rfl rfl rfl ⟨some (g, true), ⟨rfl, rfl⟩, GtS.put hS⟩) ?_
  rintro _ _ ⟨rfl, rfl⟩
  (try simp only [Act.put, puA, puB, puC])
  refine lin_done (by kernel_rfl) ?_
  intro W2 hS
  have S2 : Hid (BxS w p W2) := Lib.hid hS.1
  have R2 : Hid (RowAt W2 g (inoL ⟨gk, gp, gu, gl, gs, 0, 0, 0, 0, ge, gf⟩)) := Lib.hid (by rw [← HY.out]; exact hS.2.2)
  have HG := Lib.hid hg
  clear hS S hg HY
  go_wp2_with fail
  go_loopw [43] (fun i wr => ∃ k : Nat, k ≤ 4 ∧ i = .int .i64 (k : Int) ∧ BxS w p wr ∧ RowAt wr g (inoL ⟨gk, gp, gu, gl, gs, if k < 1 then 0 else ga, if k < 2 then 0 else gb, if k < 3 then 0 else gc, if k < 4 then 0 else gd, ge, gf⟩)) (fun i _ => 4 - (intOf i).toNat)
  case atStart => exact ⟨0, by omega, rfl, S2.out, R2.out⟩
  case round =>
    clear S2 R2
    obtain ⟨k, hk, rfl, hS, hR⟩ := hrel
    have hk : k = 0 ∨ k = 1 ∨ k = 2 ∨ k = 3 ∨ k = 4 := by omega
    rcases hk with rfl | rfl | rfl | rfl | rfl
    · have S2 := Lib.hid hS
      have R2 : Hid (RowAt wr g (inoL ⟨gk, gp, gu, gl, gs, 0, 0, 0, 0, ge, gf⟩)) := Lib.hid hR
      clear hS hR
      go_wp2_with (first
        | (with_reducible refine wpList_load_page S2.out.page rfl (.tmp 2) rfl rfl ?_)
        | (go_at_call 142; refine (Hga.out _).mono ?_; rintro e w' ⟨rfl, hb⟩; replace R2 := Lib.hid (RowAt.step R2.out hb); replace S2 := Lib.hid (S2.out.call hb); clear hb; have hcc := R2.out.cell 5 _ rfl; have hff := R2.out.frozen 5 (show 5 < 11 by decide)))
      have R3 : Hid (RowAt (w'.setCell ⟨g, 5, none⟩ (.int .i64 ga)) g (inoL ⟨gk, gp, gu, gl, gs, ga, 0, 0, 0, ge, gf⟩)) := Lib.hid (RowAt.setOne R2.out 5 (.int .i64 ga) (show 5 < 11 by decide))
      have S3 := Lib.hid (S2.out.setOut g 5 (.int .i64 ga) HG.out)
      clear S2 R2
      go_roundw
      case rel => exact ⟨1, by omega, rfl, S3.out, R3.out⟩
      case measure => simp [intOf]
    · have S2 := Lib.hid hS
      have R2 : Hid (RowAt wr g (inoL ⟨gk, gp, gu, gl, gs, ga, 0, 0, 0, ge, gf⟩)) := Lib.hid hR
      clear hS hR
      go_wp2_with (first
        | (with_reducible refine wpList_load_page S2.out.page rfl (.tmp 2) rfl rfl ?_)
        | (go_at_call 142; refine (Hgb.out _).mono ?_; rintro e w' ⟨rfl, hb⟩; replace R2 := Lib.hid (RowAt.step R2.out hb); replace S2 := Lib.hid (S2.out.call hb); clear hb; have hcc := R2.out.cell 6 _ rfl; have hff := R2.out.frozen 6 (show 6 < 11 by decide)))
      have R3 : Hid (RowAt (w'.setCell ⟨g, 6, none⟩ (.int .i64 gb)) g (inoL ⟨gk, gp, gu, gl, gs, ga, gb, 0, 0, ge, gf⟩)) := Lib.hid (RowAt.setOne R2.out 6 (.int .i64 gb) (show 6 < 11 by decide))
      have S3 := Lib.hid (S2.out.setOut g 6 (.int .i64 gb) HG.out)
      clear S2 R2
      go_roundw
      case rel => exact ⟨2, by omega, rfl, S3.out, R3.out⟩
      case measure => simp [intOf]
    · have S2 := Lib.hid hS
      have R2 : Hid (RowAt wr g (inoL ⟨gk, gp, gu, gl, gs, ga, gb, 0, 0, ge, gf⟩)) := Lib.hid hR
      clear hS hR
      go_wp2_with (first
        | (with_reducible refine wpList_load_page S2.out.page rfl (.tmp 2) rfl rfl ?_)
        | (go_at_call 142; refine (Hgc.out _).mono ?_; rintro e w' ⟨rfl, hb⟩; replace R2 := Lib.hid (RowAt.step R2.out hb); replace S2 := Lib.hid (S2.out.call hb); clear hb; have hcc := R2.out.cell 7 _ rfl; have hff := R2.out.frozen 7 (show 7 < 11 by decide)))
      have R3 : Hid (RowAt (w'.setCell ⟨g, 7, none⟩ (.int .i64 gc)) g (inoL ⟨gk, gp, gu, gl, gs, ga, gb, gc, 0, ge, gf⟩)) := Lib.hid (RowAt.setOne R2.out 7 (.int .i64 gc) (show 7 < 11 by decide))
      have S3 := Lib.hid (S2.out.setOut g 7 (.int .i64 gc) HG.out)
      clear S2 R2
      go_roundw
      case rel => exact ⟨3, by omega, rfl, S3.out, R3.out⟩
      case measure => simp [intOf]
    · have S2 := Lib.hid hS
      have R2 : Hid (RowAt wr g (inoL ⟨gk, gp, gu, gl, gs, ga, gb, gc, 0, ge, gf⟩)) := Lib.hid hR
      clear hS hR
      go_wp2_with (first
        | (with_reducible refine wpList_load_page S2.out.page rfl (.tmp 2) rfl rfl ?_)
        | (go_at_call 142; refine (Hgd.out _).mono ?_; rintro e w' ⟨rfl, hb⟩; replace R2 := Lib.hid (RowAt.step R2.out hb); replace S2 := Lib.hid (S2.out.call hb); clear hb; have hcc := R2.out.cell 8 _ rfl; have hff := R2.out.frozen 8 (show 8 < 11 by decide)))
      have R3 : Hid (RowAt (w'.setCell ⟨g, 8, none⟩ (.int .i64 gd)) g (inoL ⟨gk, gp, gu, gl, gs, ga, gb, gc, gd, ge, gf⟩)) := Lib.hid (RowAt.setOne R2.out 8 (.int .i64 gd) (show 8 < 11 by decide))
      have S3 := Lib.hid (S2.out.setOut g 8 (.int .i64 gd) HG.out)
      clear S2 R2
      go_roundw
      case rel => exact ⟨4, by omega, rfl, S3.out, R3.out⟩
      case measure => simp [intOf]
    · have S2 := Lib.hid hS
      have R2 : Hid (RowAt wr g (inoL ⟨gk, gp, gu, gl, gs, ga, gb, gc, gd, ge, gf⟩)) := Lib.hid hR
      clear hS hR
      go_wp2_with (first
        | (with_reducible refine wpList_load_rw inoT R2.out rfl rfl (.tmp 6) rfl rfl ?_)
        | ((with_reducible refine wpList_store_rw inoT (vs := inoL ⟨gk, gp, gu, gl, gs, ga, gb, gc, gd, ge, gf⟩) S2.out.out rfl rfl (inoL_one _) rfl (.tmp 4) (.tmp 57) rfl rfl ?_ ?_); (exact rfl)))
      exact bodyPost_ret (results_row1 inoT _ 4 rfl _ (S2.out.back _).1 rfl rfl) rfl ⟨rfl, (S2.out.back _).2⟩
theorem iget_1 (p : List UInt8) (w : World) (hp : p.length = 64) :
    Calls Tryz.prog 126 #[pageV p, .int .i64 1] w fun e w' => e = .returned (inoV (Ii.getI p 32)) ∧ Below w.heap.size w w' := by
  have HS := Lib.hid (bxS_box w p 47 hp)
  have Hgk := Lib.hid (fun (w : World) => get_any p 32 1 w hp (by decide) (by decide))
  have Hgp := Lib.hid (fun (w : World) => get_any p 34 2 w hp (by decide) (by decide))
  have Hgu := Lib.hid (fun (w : World) => get_any p 36 2 w hp (by decide) (by decide))
  have Hgl := Lib.hid (fun (w : World) => get_any p 38 2 w hp (by decide) (by decide))
  have Hgs := Lib.hid (fun (w : World) => get_any p 40 4 w hp (by decide) (by decide))
  have Hga := Lib.hid (fun (w : World) => get_any p 44 2 w hp (by decide) (by decide))
  have Hgb := Lib.hid (fun (w : World) => get_any p 46 2 w hp (by decide) (by decide))
  have Hgc := Lib.hid (fun (w : World) => get_any p 48 2 w hp (by decide) (by decide))
  have Hgd := Lib.hid (fun (w : World) => get_any p 50 2 w hp (by decide) (by decide))
  have Hge := Lib.hid (fun (w : World) => get_any p 52 2 w hp (by decide) (by decide))
  have Hgf := Lib.hid (fun (w : World) => get_any p 54 2 w hp (by decide) (by decide))
  have HE : Hid (Ii.getI p 32 = ⟨Pg.getN p 32 1, Pg.getN p 34 2, Pg.getN p 36 2, Pg.getN p 38 2, Pg.getN p 40 4, Pg.getN p 44 2, Pg.getN p 46 2, Pg.getN p 48 2, Pg.getN p 50 2, Pg.getN p 52 2, Pg.getN p 54 2⟩) := Lib.hid rfl
  rw [HE.out]
  clear HE hp
  generalize Pg.getN p 32 1 = gk at Hgk ⊢
  generalize Pg.getN p 34 2 = gp at Hgp ⊢
  generalize Pg.getN p 36 2 = gu at Hgu ⊢
  generalize Pg.getN p 38 2 = gl at Hgl ⊢
  generalize Pg.getN p 40 4 = gs at Hgs ⊢
  generalize Pg.getN p 44 2 = ga at Hga ⊢
  generalize Pg.getN p 46 2 = gb at Hgb ⊢
  generalize Pg.getN p 48 2 = gc at Hgc ⊢
  generalize Pg.getN p 50 2 = gd at Hgd ⊢
  generalize Pg.getN p 52 2 = ge at Hge ⊢
  generalize Pg.getN p 54 2 = gf at Hgf ⊢
  obtain ⟨y0, HY⟩ : ∃ y0 : Ino, Hid (y0 = ⟨gk, gp, gu, gl, gs, 0, 0, 0, 0, ge, gf⟩) := ⟨_, Lib.hid rfl⟩
  unfold pageV
  go_enter Tryz.func126, Tryz.ntmps126
  go_wp2_with fail
  refine (isThere_yes _ _ (by decide) (by decide)).mono ?_
  rintro e w1 ⟨rfl, hw⟩
  have S : Hid (BxS w p w1) := Lib.hid (by rw [← hw]; exact HS.out)
  clear hw HS
  go_wp2_with fail
  refine wp_region_lin (GtS w p y0) (fun i => i == 29 || i == 30) (fun i => [pageV p, .int .i64 32, .int .i64 32, .int .i64 gk, pageV p, .int .i64 32, .int .i64 34, .int .i64 gp, pageV p, .int .i64 32, .int .i64 36, .int .i64 gu, pageV p, .int .i64 32, .int .i64 38, .int .i64 gl, pageV p, .int .i64 32, .int .i64 40, .int .i64 gs, pageV p, .int .i64 32, .int .i64 52, .int .i64 ge, pageV p, .int .i64 32, .int .i64 54, .int .i64 gf, inoV y0].getD i undef) (none) (by kernel_rfl) (by kernel_rfl) (⟨BxS.drew S.out, trivial⟩) ?_
  refine lin_step (i := 0) (d := some 14) (v := pageV p) rfl rfl (by kernel_rfl) (by kernel_rfl) rfl rfl (ord_page (by kernel_rfl) (.tmp 2) rfl rfl (fun _ _ hS => hS.1.page)) ?_
  (try simp only [Act.put, puA, puB, puC])
  refine lin_step (i := 1) (d := some 15) (v := .int .i64 32) rfl rfl (by kernel_rfl) (by kernel_rfl) rfl rfl (ord_value (by kernel_rfl) ?_) ?_
  · (intro _ _ _; go_simp) <;> kernel_rfl
  (try simp only [Act.put, puA, puB, puC])
  refine lin_step (i := 2) (d := some 16) (v := .int .i64 32) rfl rfl (by kernel_rfl) (by kernel_rfl) rfl rfl (ord_value (by kernel_rfl) ?_) ?_
  · (intro _ _ _; go_simp) <;> kernel_rfl
  (try simp only [Act.put, puA, puB, puC])
  refine lin_step (i := 3) (d := some 17) (v := .int .i64 gk) rfl rfl (by kernel_rfl) (by kernel_rfl) rfl rfl (ord_call (f := 142) (args := #[pageV p, .int .i64 32, .int .i64 1]) (by kernel_rfl) ?_ (fun _ W hS => (Hgk.out W).mono fun _ _ h => ⟨h.1, GtS.call hS h.2⟩)) ?_
  · intro _; go_simp
  (try simp only [Act.put, puA, puB, puC])
  refine lin_step (i := 4) (d := some 18) (v := pageV p) rfl rfl (by kernel_rfl) (by kernel_rfl) rfl rfl (ord_page (by kernel_rfl) (.tmp 2) rfl rfl (fun _ _ hS => hS.1.page)) ?_
  (try simp only [Act.put, puA, puB, puC])
  refine lin_step (i := 5) (d := some 19) (v := .int .i64 32) rfl rfl (by kernel_rfl) (by kernel_rfl) rfl rfl (ord_value (by kernel_rfl) ?_) ?_
  · (intro _ _ _; go_simp) <;> kernel_rfl
  (try simp only [Act.put, puA, puB, puC])
  refine lin_step (i := 6) (d := some 20) (v := .int .i64 34) rfl rfl (by kernel_rfl) (by kernel_rfl) rfl rfl (ord_value (by kernel_rfl) ?_) ?_
  · (intro _ _ _; go_simp) <;> kernel_rfl
  (try simp only [Act.put, puA, puB, puC])
  refine lin_step (i := 7) (d := some 21) (v := .int .i64 gp) rfl rfl (by kernel_rfl) (by kernel_rfl) rfl rfl (ord_call (f := 142) (args := #[pageV p, .int .i64 34, .int .i64 2]) (by kernel_rfl) ?_ (fun _ W hS => (Hgp.out W).mono fun _ _ h => ⟨h.1, GtS.call hS h.2⟩)) ?_
  · intro _; go_simp
  (try simp only [Act.put, puA, puB, puC])
  refine lin_step (i := 8) (d := some 22) (v := pageV p) rfl rfl (by kernel_rfl) (by kernel_rfl) rfl rfl (ord_page (by kernel_rfl) (.tmp 2) rfl rfl (fun _ _ hS => hS.1.page)) ?_
  (try simp only [Act.put, puA, puB, puC])
  refine lin_step (i := 9) (d := some 23) (v := .int .i64 32) rfl rfl (by kernel_rfl) (by kernel_rfl) rfl rfl (ord_value (by kernel_rfl) ?_) ?_
  · (intro _ _ _; go_simp) <;> kernel_rfl
  (try simp only [Act.put, puA, puB, puC])
  refine lin_step (i := 10) (d := some 24) (v := .int .i64 36) rfl rfl (by kernel_rfl) (by kernel_rfl) rfl rfl (ord_value (by kernel_rfl) ?_) ?_
  · (intro _ _ _; go_simp) <;> kernel_rfl
  (try simp only [Act.put, puA, puB, puC])
  refine lin_step (i := 11) (d := some 25) (v := .int .i64 gu) rfl rfl (by kernel_rfl) (by kernel_rfl) rfl rfl (ord_call (f := 142) (args := #[pageV p, .int .i64 36, .int .i64 2]) (by kernel_rfl) ?_ (fun _ W hS => (Hgu.out W).mono fun _ _ h => ⟨h.1, GtS.call hS h.2⟩)) ?_
  · intro _; go_simp
  (try simp only [Act.put, puA, puB, puC])
  refine lin_step (i := 12) (d := some 26) (v := pageV p) rfl rfl (by kernel_rfl) (by kernel_rfl) rfl rfl (ord_page (by kernel_rfl) (.tmp 2) rfl rfl (fun _ _ hS => hS.1.page)) ?_
  (try simp only [Act.put, puA, puB, puC])
  refine lin_step (i := 13) (d := some 27) (v := .int .i64 32) rfl rfl (by kernel_rfl) (by kernel_rfl) rfl rfl (ord_value (by kernel_rfl) ?_) ?_
  · (intro _ _ _; go_simp) <;> kernel_rfl
  (try simp only [Act.put, puA, puB, puC])
  refine lin_step (i := 14) (d := some 28) (v := .int .i64 38) rfl rfl (by kernel_rfl) (by kernel_rfl) rfl rfl (ord_value (by kernel_rfl) ?_) ?_
  · (intro _ _ _; go_simp) <;> kernel_rfl
  (try simp only [Act.put, puA, puB, puC])
  refine lin_step (i := 15) (d := some 29) (v := .int .i64 gl) rfl rfl (by kernel_rfl) (by kernel_rfl) rfl rfl (ord_call (f := 142) (args := #[pageV p, .int .i64 38, .int .i64 2]) (by kernel_rfl) ?_ (fun _ W hS => (Hgl.out W).mono fun _ _ h => ⟨h.1, GtS.call hS h.2⟩)) ?_
  · intro _; go_simp
  (try simp only [Act.put, puA, puB, puC])
  refine lin_step (i := 16) (d := some 30) (v := pageV p) rfl rfl (by kernel_rfl) (by kernel_rfl) rfl rfl (ord_page (by kernel_rfl) (.tmp 2) rfl rfl (fun _ _ hS => hS.1.page)) ?_
  (try simp only [Act.put, puA, puB, puC])
  refine lin_step (i := 17) (d := some 31) (v := .int .i64 32) rfl rfl (by kernel_rfl) (by kernel_rfl) rfl rfl (ord_value (by kernel_rfl) ?_) ?_
  · (intro _ _ _; go_simp) <;> kernel_rfl
  (try simp only [Act.put, puA, puB, puC])
  refine lin_step (i := 18) (d := some 32) (v := .int .i64 40) rfl rfl (by kernel_rfl) (by kernel_rfl) rfl rfl (ord_value (by kernel_rfl) ?_) ?_
  · (intro _ _ _; go_simp) <;> kernel_rfl
  (try simp only [Act.put, puA, puB, puC])
  refine lin_step (i := 19) (d := some 33) (v := .int .i64 gs) rfl rfl (by kernel_rfl) (by kernel_rfl) rfl rfl (ord_call (f := 142) (args := #[pageV p, .int .i64 40, .int .i64 4]) (by kernel_rfl) ?_ (fun _ W hS => (Hgs.out W).mono fun _ _ h => ⟨h.1, GtS.call hS h.2⟩)) ?_
  · intro _; go_simp
  (try simp only [Act.put, puA, puB, puC])
  refine lin_step (i := 20) (d := some 34) (v := pageV p) rfl rfl (by kernel_rfl) (by kernel_rfl) rfl rfl (ord_page (by kernel_rfl) (.tmp 2) rfl rfl (fun _ _ hS => hS.1.page)) ?_
  (try simp only [Act.put, puA, puB, puC])
  refine lin_step (i := 21) (d := some 35) (v := .int .i64 32) rfl rfl (by kernel_rfl) (by kernel_rfl) rfl rfl (ord_value (by kernel_rfl) ?_) ?_
  · (intro _ _ _; go_simp) <;> kernel_rfl
  (try simp only [Act.put, puA, puB, puC])
  refine lin_step (i := 22) (d := some 36) (v := .int .i64 52) rfl rfl (by kernel_rfl) (by kernel_rfl) rfl rfl (ord_value (by kernel_rfl) ?_) ?_
  · (intro _ _ _; go_simp) <;> kernel_rfl
  (try simp only [Act.put, puA, puB, puC])
  refine lin_step (i := 23) (d := some 37) (v := .int .i64 ge) rfl rfl (by kernel_rfl) (by kernel_rfl) rfl rfl (ord_call (f := 142) (args := #[pageV p, .int .i64 52, .int .i64 2]) (by kernel_rfl) ?_ (fun _ W hS => (Hge.out W).mono fun _ _ h => ⟨h.1, GtS.call hS h.2⟩)) ?_
  · intro _; go_simp
  (try simp only [Act.put, puA, puB, puC])
  refine lin_step (i := 24) (d := some 38) (v := pageV p) rfl rfl (by kernel_rfl) (by kernel_rfl) rfl rfl (ord_page (by kernel_rfl) (.tmp 2) rfl rfl (fun _ _ hS => hS.1.page)) ?_
  (try simp only [Act.put, puA, puB, puC])
  refine lin_step (i := 25) (d := some 39) (v := .int .i64 32) rfl rfl (by kernel_rfl) (by kernel_rfl) rfl rfl (ord_value (by kernel_rfl) ?_) ?_
  · (intro _ _ _; go_simp) <;> kernel_rfl
  (try simp only [Act.put, puA, puB, puC])
  refine lin_step (i := 26) (d := some 40) (v := .int .i64 54) rfl rfl (by kernel_rfl) (by kernel_rfl) rfl rfl (ord_value (by kernel_rfl) ?_) ?_
  · (intro _ _ _; go_simp) <;> kernel_rfl
  (try simp only [Act.put, puA, puB, puC])
  refine lin_step (i := 27) (d := some 41) (v := .int .i64 gf) rfl rfl (by kernel_rfl) (by kernel_rfl) rfl rfl (ord_call (f := 142) (args := #[pageV p, .int .i64 54, .int .i64 2]) (by kernel_rfl) ?_ (fun _ W hS => (Hgf.out W).mono fun _ _ h => ⟨h.1, GtS.call hS h.2⟩)) ?_
  · intro _; go_simp
  (try simp only [Act.put, puA, puB, puC])
  refine lin_step (i := 28) (d := some 42) (v := inoV y0) rfl rfl (by kernel_rfl) (by kernel_rfl) rfl rfl (ord_value (by kernel_rfl) ?_) ?_
  · (intro _ _ _; rw [HY.out]; go_simp) <;> rfl
  (try simp only [Act.put, puA, puB, puC])
  refine lin_turn (i := 29) (d := some 6) (fun u s => ∃ g, w.heap.size + 1 < g ∧ u = .pointer (some ⟨g, 0, none⟩) ∧ s = some (g, false)) rfl rfl (by kernel_rfl) (by kernel_rfl) rfl (by kernel_rfl) (⟨_, _, w.heap.size + 2, by omega, rfl, rfl⟩) (by kernel_rfl) (fun W hS => gives_to (v := .pointer (some ⟨W.heap.size, 0, none⟩)) (w' := W.alloc (.cells (inoL Ii.zero).toArray 47)) (by go_simp; rfl) ⟨some (W.heap.size, false), ⟨W.heap.size, hS.1.out.lt, rfl, rfl⟩, GtS.alloc hS.1⟩) ?_
  rintro _ _ ⟨g, hg, rfl, rfl⟩
  (try simp only [Act.put, puA, puB, puC])
  refine lin_turn (i := 30) (d := none) (fun u s => u = undef ∧ s = some (g, true)) rfl rfl (by kernel_rfl) (by kernel_rfl) rfl (by kernel_rfl) (⟨_, _, rfl, rfl⟩) (by kernel_rfl) (fun W hS => gives_store_row inoT hS.2.2 rfl rfl (inoL_one y0) (.tmp 6) (.tmp 42) rfl rfl rfl ⟨some (g, true), ⟨rfl, rfl⟩, GtS.put hS⟩) ?_
  rintro _ _ ⟨rfl, rfl⟩
  (try simp only [Act.put, puA, puB, puC])
  refine lin_done (by kernel_rfl) ?_
  intro W2 hS
  have S2 : Hid (BxS w p W2) := Lib.hid hS.1
  have R2 : Hid (RowAt W2 g (inoL ⟨gk, gp, gu, gl, gs, 0, 0, 0, 0, ge, gf⟩)) := Lib.hid (by rw [← HY.out]; exact hS.2.2)
  have HG := Lib.hid hg
  clear hS S hg HY
  go_wp2_with fail
  go_loopw [43] (fun i wr => ∃ k : Nat, k ≤ 4 ∧ i = .int .i64 (k : Int) ∧ BxS w p wr ∧ RowAt wr g (inoL ⟨gk, gp, gu, gl, gs, if k < 1 then 0 else ga, if k < 2 then 0 else gb, if k < 3 then 0 else gc, if k < 4 then 0 else gd, ge, gf⟩)) (fun i _ => 4 - (intOf i).toNat)
  case atStart => exact ⟨0, by omega, rfl, S2.out, R2.out⟩
  case round =>
    clear S2 R2
    obtain ⟨k, hk, rfl, hS, hR⟩ := hrel
    have hk : k = 0 ∨ k = 1 ∨ k = 2 ∨ k = 3 ∨ k = 4 := by omega
    rcases hk with rfl | rfl | rfl | rfl | rfl
    · have S2 := Lib.hid hS
      have R2 : Hid (RowAt wr g (inoL ⟨gk, gp, gu, gl, gs, 0, 0, 0, 0, ge, gf⟩)) := Lib.hid hR
      clear hS hR
      go_wp2_with (first
        | (with_reducible refine wpList_load_page S2.out.page rfl (.tmp 2) rfl rfl ?_)
        | (go_at_call 142; refine (Hga.out _).mono ?_; rintro e w' ⟨rfl, hb⟩; replace R2 := Lib.hid (RowAt.step R2.out hb); replace S2 := Lib.hid (S2.out.call hb); clear hb; have hcc := R2.out.cell 5 _ rfl; have hff := R2.out.frozen 5 (show 5 < 11 by decide)))
      have R3 : Hid (RowAt (w'.setCell ⟨g, 5, none⟩ (.int .i64 ga)) g (inoL ⟨gk, gp, gu, gl, gs, ga, 0, 0, 0, ge, gf⟩)) := Lib.hid (RowAt.setOne R2.out 5 (.int .i64 ga) (show 5 < 11 by decide))
      have S3 := Lib.hid (S2.out.setOut g 5 (.int .i64 ga) HG.out)
      clear S2 R2
      go_roundw
      case rel => exact ⟨1, by omega, rfl, S3.out, R3.out⟩
      case measure => simp [intOf]
    · have S2 := Lib.hid hS
      have R2 : Hid (RowAt wr g (inoL ⟨gk, gp, gu, gl, gs, ga, 0, 0, 0, ge, gf⟩)) := Lib.hid hR
      clear hS hR
      go_wp2_with (first
        | (with_reducible refine wpList_load_page S2.out.page rfl (.tmp 2) rfl rfl ?_)
        | (go_at_call 142; refine (Hgb.out _).mono ?_; rintro e w' ⟨rfl, hb⟩; replace R2 := Lib.hid (RowAt.step R2.out hb); replace S2 := Lib.hid (S2.out.call hb); clear hb; have hcc := R2.out.cell 6 _ rfl; have hff := R2.out.frozen 6 (show 6 < 11 by decide)))
      have R3 : Hid (RowAt (w'.setCell ⟨g, 6, none⟩ (.int .i64 gb)) g (inoL ⟨gk, gp, gu, gl, gs, ga, gb, 0, 0, ge, gf⟩)) := Lib.hid (RowAt.setOne R2.out 6 (.int .i64 gb) (show 6 < 11 by decide))
      have S3 := Lib.hid (S2.out.setOut g 6 (.int .i64 gb) HG.out)
      clear S2 R2
      go_roundw
      case rel => exact ⟨2, by omega, rfl, S3.out, R3.out⟩
      case measure => simp [intOf]
    · have S2 := Lib.hid hS
      have R2 : Hid (RowAt wr g (inoL ⟨gk, gp, gu, gl, gs, ga, gb, 0, 0, ge, gf⟩)) := Lib.hid hR
      clear hS hR
      go_wp2_with (first
        | (with_reducible refine wpList_load_page S2.out.page rfl (.tmp 2) rfl rfl ?_)
        | (go_at_call 142; refine (Hgc.out _).mono ?_; rintro e w' ⟨rfl, hb⟩; replace R2 := Lib.hid (RowAt.step R2.out hb); replace S2 := Lib.hid (S2.out.call hb); clear hb; have hcc := R2.out.cell 7 _ rfl; have hff := R2.out.frozen 7 (show 7 < 11 by decide)))
      have R3 : Hid (RowAt (w'.setCell ⟨g, 7, none⟩ (.int .i64 gc)) g (inoL ⟨gk, gp, gu, gl, gs, ga, gb, gc, 0, ge, gf⟩)) := Lib.hid (RowAt.setOne R2.out 7 (.int .i64 gc) (show 7 < 11 by decide))
      have S3 := Lib.hid (S2.out.setOut g 7 (.int .i64 gc) HG.out)
      clear S2 R2
      go_roundw
      case rel => exact ⟨3, by omega, rfl, S3.out, R3.out⟩
      case measure => simp [intOf]
    · have S2 := Lib.hid hS
      have R2 : Hid (RowAt wr g (inoL ⟨gk, gp, gu, gl, gs, ga, gb, gc, 0, ge, gf⟩)) := Lib.hid hR
      clear hS hR
      go_wp2_with (first
        | (with_reducible refine wpList_load_page S2.out.page rfl (.tmp 2) rfl rfl ?_)
        | (go_at_call 142; refine (Hgd.out _).mono ?_; rintro e w' ⟨rfl, hb⟩; replace R2 := Lib.hid (RowAt.step R2.out hb); replace S2 := Lib.hid (S2.out.call hb); clear hb; have hcc := R2.out.cell 8 _ rfl; have hff := R2.out.frozen 8 (show 8 < 11 by decide)))
      have R3 : Hid (RowAt (w'.setCell ⟨g, 8, none⟩ (.int .i64 gd)) g (inoL ⟨gk, gp, gu, gl, gs, ga, gb, gc, gd, ge, gf⟩)) := Lib.hid (RowAt.setOne R2.out 8 (.int .i64 gd) (show 8 < 11 by decide))
      have S3 := Lib.hid (S2.out.setOut g 8 (.int .i64 gd) HG.out)
      clear S2 R2
      go_roundw
      case rel => exact ⟨4, by omega, rfl, S3.out, R3.out⟩
      case measure => simp [intOf]
    · have S2 := Lib.hid hS
      have R2 : Hid (RowAt wr g (inoL ⟨gk, gp, gu, gl, gs, ga, gb, gc, gd, ge, gf⟩)) := Lib.hid hR
      clear hS hR
      go_wp2_with (first
        | (with_reducible refine wpList_load_rw inoT R2.out rfl rfl (.tmp 6) rfl rfl ?_)
        | ((with_reducible refine wpList_store_rw inoT (vs := inoL ⟨gk, gp, gu, gl, gs, ga, gb, gc, gd, ge, gf⟩) S2.out.out rfl rfl (inoL_one _) rfl (.tmp 4) (.tmp 57) rfl rfl ?_ ?_); (exact rfl)))
      exact bodyPost_ret (results_row1 inoT _ 4 rfl _ (S2.out.back _).1 rfl rfl) rfl ⟨rfl, (S2.out.back _).2⟩
end

section
open Dk (zeros zeros_length)
open Go.RowKit
open Ii (Ino)
theorem counts_any (x : Ino) (w : World) :
    Calls Tryz.prog 124 #[inoV x] w fun e w' => e = .returned (.bool (Ii.cntB x)) ∧ Below w.heap.size w w' := by
  have HE : Ii.cntB x = (decide (0 ≤ x.p ∧ x.p ≤ 511) && (decide (0 ≤ x.u ∧ x.u ≤ 65535) && (decide (0 ≤ x.l ∧ x.l ≤ 40) && decide (0 ≤ x.s ∧ x.s ≤ 67840)))) := by
    unfold Ii.cntB
    simp only [Bool.decide_and, Bool.and_assoc]
  rw [HE]
  clear HE
  have H1 := Lib.hid (fun w => upTo_any 511 x.p w)
  have H2 := Lib.hid (fun w => upTo_any 65535 x.u w)
  have H3 := Lib.hid (fun w => upTo_any 40 x.l w)
  have H4 := Lib.hid (fun w => upTo_any 67840 x.s w)
  generalize decide (0 ≤ x.p ∧ x.p ≤ 511) = b1 at H1 ⊢
  generalize decide (0 ≤ x.u ∧ x.u ≤ 65535) = b2 at H2 ⊢
  generalize decide (0 ≤ x.l ∧ x.l ≤ 40) = b3 at H3 ⊢
  generalize decide (0 ≤ x.s ∧ x.s ≤ 67840) = b4 at H4 ⊢
  have hrow := rowAt_new w (inoL x) 47
  have hbel : Below w.heap.size w (w.alloc (.cells (inoL x).toArray 47)) := (Below.refl _ _).alloc (Nat.le_refl _) _
  rcases (by cases b1 <;> cases b2 <;> cases b3 <;> simp : b1 = false ∨ (b1 = true ∧ b2 = false) ∨ (b1 = true ∧ b2 = true ∧ b3 = false) ∨ (b1 = true ∧ b2 = true ∧ b3 = true)) with rfl | ⟨rfl, rfl⟩ | ⟨rfl, rfl, rfl⟩ | ⟨rfl, rfl, rfl⟩
  all_goals
    simp only [Bool.false_and, Bool.true_and]
    unfold inoV
    go_enter Tryz.func124, Tryz.ntmps124
    go_wp2_with fail
    generalize hw : w.alloc _ = w1
    have HB : Hid (Below w.heap.size w w1) := Lib.hid (by rw [← hw]; exact hbel)
    have hr : RowAt w1 w.heap.size (inoL x) := by rw [← hw]; exact hrow
    have hc1 := hr.cell 1 _ rfl
    have hc2 := hr.cell 2 _ rfl
    have hc3 := hr.cell 3 _ rfl
    have hc4 := hr.cell 4 _ rfl
    clear hw hrow hbel hr
    go_wp2_with (first
      | (go_at_call 158; (with_reducible refine (H1.out _).mono ?_); rintro e w' ⟨rfl, rfl⟩)
      | (go_at_call 158; (with_reducible refine (H2.out _).mono ?_); rintro e w' ⟨rfl, rfl⟩)
      | (go_at_call 158; (with_reducible refine (H3.out _).mono ?_); rintro e w' ⟨rfl, rfl⟩)
      | (go_at_call 158; (with_reducible refine (H4.out _).mono ?_); rintro e w' ⟨rfl, rfl⟩))
    go_ret
    exact ⟨rfl, HB.out⟩
def firstB (p i : Int) (x : Ino) : Nat → Bool
  | 0 => true
  | k + 1 => firstB p i x k && Ii.numB p i (x.dir k)
theorem numsB_is (p i : Int) (x : Ino) : Ii.numsB p i x = (firstB p i x 4 && (Ii.numB p i x.e && Ii.numB p i x.f)) := by
  unfold Ii.numsB firstB firstB firstB firstB firstB
  simp only [Ii.Ino.dir, Bool.true_and, Bool.and_assoc]
theorem first_no (p i : Int) (x : Ino) (k : Nat) (hk : k < 4) (h : Ii.numB p i (x.dir k) = false) : Ii.numsB p i x = false := by
  rw [numsB_is]
  have : k = 0 ∨ k = 1 ∨ k = 2 ∨ k = 3 := by omega
  rcases this with rfl | rfl | rfl | rfl <;> (unfold firstB firstB firstB firstB firstB; rw [h]; simp)
structure NrS (w0 : World) (x : Ino) (vs : List Value) (W : World) : Prop where
  ino : RowAt W w0.heap.size (inoL x)
  plan : RowAt W (w0.heap.size + 1) vs
  below : Below w0.heap.size w0 W
theorem NrS.call {w0 : World} {x : Ino} {v : Value} {vs : List Value} {W W' : World} (k : NrS w0 x (v :: vs) W) (hb : Below W.heap.size W W') : NrS w0 x (v :: vs) W' :=
  ⟨RowAt.step k.ino hb, RowAt.step k.plan hb, k.below.trans (hb.mono k.below.size)⟩
theorem nrS_box (w : World) (x : Ino) (vs : List Value) (t u : TypeId) : NrS w x vs ((w.alloc (.cells (inoL x).toArray t)).alloc (.cells vs.toArray u)) where
  ino := (rowAt_new w (inoL x) t).alloc _
  plan := by
    have h := rowAt_new (w.alloc (.cells (inoL x).toArray t)) vs u
    rw [World.size_alloc] at h
    exact h
  below := ((Below.refl _ _).alloc (Nat.le_refl _) _).alloc (by simp) _
theorem numbers_any (p i : Int) (x : Ino) (w : World) (h : Pl.rightB p i = true) :
    Calls Tryz.prog 125 #[inoV x, planV p i] w fun e w' => e = .returned (.bool (Ii.numsB p i x)) ∧ Below w.heap.size w w' := by
  have HN : Hid (∀ n w, Calls Tryz.prog 159 #[.int .i64 n, .agg (planL p i).toArray] w fun e w' => e = .returned (.bool (Ii.numB p i n)) ∧ Below w.heap.size w w') := Lib.hid (fun n w => numberRight_any p i n w h)
  have HS := Lib.hid (nrS_box w x (planL p i) 47 68)
  clear h
  unfold inoV planV
  go_enter Tryz.func125, Tryz.ntmps125
  go_wp2_with fail
  generalize hw : (w.alloc _).alloc _ = w1
  have S : Hid (NrS w x (planL p i) w1) := Lib.hid (by rw [← hw]; exact HS.out)
  clear hw HS
  go_wp2_with (with_reducible refine wpList_load_four S.out.ino rfl (.tmp 7) rfl rfl ?_)
  go_loopw [9] (fun n wr => ∃ k : Nat, k ≤ 4 ∧ n = .int .i64 (k : Int) ∧ Hid (firstB p i x k = true) ∧ NrS w x (planL p i) wr) (fun n _ => 4 - (intOf n).toNat)
  case atStart => exact ⟨0, by omega, rfl, Lib.hid rfl, S.out⟩
  case round =>
    clear S
    obtain ⟨k, hk, rfl, HF, hS⟩ := hrel
    have S := Lib.hid hS
    clear hS
    have hk : k = 0 ∨ k = 1 ∨ k = 2 ∨ k = 3 ∨ k = 4 := by omega
    rcases hk with rfl | rfl | rfl | rfl | rfl
    · have hix := fun W => index_four0 x W
      have H5 := Lib.hid (fun w => HN.out x.a w)
      cases hb5 : Ii.numB p i x.a with
      | false =>
        have HE := Lib.hid (first_no p i x 0 (by omega) hb5)
        rw [hb5] at H5
        clear hb5 HN HF
        go_wp2_with (first
          | (with_reducible refine wpList_load_rw planT S.out.plan rfl rfl (.tmp 3) rfl rfl ?_)
          | (go_at_call 159; (with_reducible refine (H5.out _).mono ?_); rintro e w' ⟨rfl, hb⟩; replace S := Lib.hid (S.out.call hb); clear hb))
        go_ret
        exact ⟨by rw [HE.out]; rfl, S.out.below⟩
      | true =>
        have HF2 : Hid (firstB p i x 1 = true) := Lib.hid (by
          unfold firstB
          rw [HF.out]
          exact hb5)
        rw [hb5] at H5
        clear hb5 HN HF
        go_wp2_with (first
          | (with_reducible refine wpList_load_rw planT S.out.plan rfl rfl (.tmp 3) rfl rfl ?_)
          | (go_at_call 159; (with_reducible refine (H5.out _).mono ?_); rintro e w' ⟨rfl, hb⟩; replace S := Lib.hid (S.out.call hb); clear hb))
        go_roundw
        case rel => exact ⟨1, by omega, rfl, HF2, S.out⟩
        case measure => simp [intOf]
    · have hix := fun W => index_four1 x W
      have H5 := Lib.hid (fun w => HN.out x.b w)
      cases hb5 : Ii.numB p i x.b with
      | false =>
        have HE := Lib.hid (first_no p i x 1 (by omega) hb5)
        rw [hb5] at H5
        clear hb5 HN HF
        go_wp2_with (first
          | (with_reducible refine wpList_load_rw planT S.out.plan rfl rfl (.tmp 3) rfl rfl ?_)
          | (go_at_call 159; (with_reducible refine (H5.out _).mono ?_); rintro e w' ⟨rfl, hb⟩; replace S := Lib.hid (S.out.call hb); clear hb))
        go_ret
        exact ⟨by rw [HE.out]; rfl, S.out.below⟩
      | true =>
        have HF2 : Hid (firstB p i x 2 = true) := Lib.hid (by
          unfold firstB
          rw [HF.out]
          exact hb5)
        rw [hb5] at H5
        clear hb5 HN HF
        go_wp2_with (first
          | (with_reducible refine wpList_load_rw planT S.out.plan rfl rfl (.tmp 3) rfl rfl ?_)
          | (go_at_call 159; (with_reducible refine (H5.out _).mono ?_); rintro e w' ⟨rfl, hb⟩; replace S := Lib.hid (S.out.call hb); clear hb))
        go_roundw
        case rel => exact ⟨2, by omega, rfl, HF2, S.out⟩
        case measure => simp [intOf]
    · have hix := fun W => index_four2 x W
      have H5 := Lib.hid (fun w => HN.out x.c w)
      cases hb5 : Ii.numB p i x.c with
      | false =>
        have HE := Lib.hid (first_no p i x 2 (by omega) hb5)
        rw [hb5] at H5
        clear hb5 HN HF
        go_wp2_with (first
          | (with_reducible refine wpList_load_rw planT S.out.plan rfl rfl (.tmp 3) rfl rfl ?_)
          | (go_at_call 159; (with_reducible refine (H5.out _).mono ?_); rintro e w' ⟨rfl, hb⟩; replace S := Lib.hid (S.out.call hb); clear hb))
        go_ret
        exact ⟨by rw [HE.out]; rfl, S.out.below⟩
      | true =>
        have HF2 : Hid (firstB p i x 3 = true) := Lib.hid (by
          unfold firstB
          rw [HF.out]
          exact hb5)
        rw [hb5] at H5
        clear hb5 HN HF
        go_wp2_with (first
          | (with_reducible refine wpList_load_rw planT S.out.plan rfl rfl (.tmp 3) rfl rfl ?_)
          | (go_at_call 159; (with_reducible refine (H5.out _).mono ?_); rintro e w' ⟨rfl, hb⟩; replace S := Lib.hid (S.out.call hb); clear hb))
        go_roundw
        case rel => exact ⟨3, by omega, rfl, HF2, S.out⟩
        case measure => simp [intOf]
    · have hix := fun W => index_four3 x W
      have H5 := Lib.hid (fun w => HN.out x.d w)
      cases hb5 : Ii.numB p i x.d with
      | false =>
        have HE := Lib.hid (first_no p i x 3 (by omega) hb5)
        rw [hb5] at H5
        clear hb5 HN HF
        go_wp2_with (first
          | (with_reducible refine wpList_load_rw planT S.out.plan rfl rfl (.tmp 3) rfl rfl ?_)
          | (go_at_call 159; (with_reducible refine (H5.out _).mono ?_); rintro e w' ⟨rfl, hb⟩; replace S := Lib.hid (S.out.call hb); clear hb))
        go_ret
        exact ⟨by rw [HE.out]; rfl, S.out.below⟩
      | true =>
        have HF2 : Hid (firstB p i x 4 = true) := Lib.hid (by
          unfold firstB
          rw [HF.out]
          exact hb5)
        rw [hb5] at H5
        clear hb5 HN HF
        go_wp2_with (first
          | (with_reducible refine wpList_load_rw planT S.out.plan rfl rfl (.tmp 3) rfl rfl ?_)
          | (go_at_call 159; (with_reducible refine (H5.out _).mono ?_); rintro e w' ⟨rfl, hb⟩; replace S := Lib.hid (S.out.call hb); clear hb))
        go_roundw
        case rel => exact ⟨4, by omega, rfl, HF2, S.out⟩
        case measure => simp [intOf]
    · have HE : Hid (Ii.numsB p i x = (Ii.numB p i x.e && Ii.numB p i x.f)) := Lib.hid (by rw [numsB_is, HF.out, Bool.true_and])
      have H5 := Lib.hid (fun w => HN.out x.e w)
      have H6 : Hid (∀ w, Calls Tryz.prog 159 #[.int .i64 x.f, .agg #[.int .i64 p, .int .i64 i]] w fun e w' => e = .returned (.bool (Ii.numB p i x.f)) ∧ Below w.heap.size w w') := Lib.hid (fun w => HN.out x.f w)
      generalize Ii.numB p i x.e = b5 at H5 HE
      generalize Ii.numB p i x.f = b6 at H6 HE
      clear HN HF
      have hc9 := S.out.ino.cell 9 _ rfl
      cases b5
      all_goals
        go_wp2_with (first
          | (with_reducible refine wpList_load_rw planT S.out.plan rfl rfl (.tmp 3) rfl rfl ?_)
          | ((with_reducible refine wpList_loadg_row planT S.out.plan rfl (.tmp 3) rfl rfl ?_ ?_); (exact rfl))
          | (go_at_call 159; (with_reducible refine (H5.out _).mono ?_); rintro e w' ⟨rfl, hb⟩; clear hc9; replace S := Lib.hid (S.out.call hb); have hc10 := S.out.ino.cell 10 _ rfl; clear hb)
          | (go_at_call 159; (with_reducible refine (H6.out _).mono ?_); rintro e w' ⟨rfl, hb⟩; replace S := Lib.hid (S.out.call hb); clear hb))
        go_ret
        exact ⟨by rw [HE.out]; rfl, S.out.below⟩
end

section
open Go.RowKit Go.Maps
open Dk (zeros zeros_length)
open Ii (Ino)
structure Lo (L : List Nat) (w0 : World) (l : List (Nat × List Value)) (w : World) : Prop where
  row : ∀ x ∈ l, RowAt w x.1 x.2 ∧ w0.heap.size ≤ x.1 ∧ x.1 < w.heap.size
  ne : (l.map (·.1)).Nodup
  only : Only L w0 w
  low : ∀ k ∈ L, k < w0.heap.size
theorem Lo.get {L : List Nat} {w0 w : World} {l : List (Nat × List Value)} (h : Lo L w0 l w) (k : Nat) (x : Nat × List Value) (hx : l[k]? = some x) : RowAt w x.1 x.2 := (h.row x (List.mem_of_getElem? hx)).1
theorem Lo.lt {L : List Nat} {w0 w : World} {l : List (Nat × List Value)} (h : Lo L w0 l w) (k : Nat) (x : Nat × List Value) (hx : l[k]? = some x) : x.1 < w.heap.size := (h.row x (List.mem_of_getElem? hx)).2.2
theorem Lo.start {L : List Nat} (w : World) (hL : ∀ k ∈ L, k < w.heap.size) : Lo L w [] w := ⟨fun x hx => (by cases hx), List.nodup_nil, Only.refl L w, hL⟩
theorem Lo.none {L : List Nat} {w0 w : World} (h : Only L w0 w) (hL : ∀ k ∈ L, k < w0.heap.size) : Lo L w0 [] w := ⟨fun x hx => (by cases hx), List.nodup_nil, h, hL⟩
theorem Lo.fresh {L : List Nat} {w0 w : World} {l : List (Nat × List Value)} (h : Lo L w0 l w) {B : Nat} (hB : w.heap.size ≤ B) : ((l ++ [(B, ([] : List Value))]).map (·.1)).Nodup := by
  rw [List.map_append, List.nodup_append]
  refine ⟨h.ne, by simp, fun a ha c hc => ?_⟩
  obtain ⟨x, hx, rfl⟩ := List.mem_map.1 ha
  simp at hc
  have := (h.row x hx).2.2
  omega
theorem Lo.alloc {L : List Nat} {w0 w : World} {l : List (Nat × List Value)} (h : Lo L w0 l w) (B : Nat) (hB : w.heap.size = B) (vs : List Value) (t : TypeId) : Lo L w0 (l ++ [(B, vs)]) (w.alloc (.cells vs.toArray t)) := by
 subst hB
 exact {
  row := fun x hx => by
    rcases List.mem_append.1 hx with hx | hx
    · obtain ⟨h1, h2, h3⟩ := h.row x hx
      exact ⟨h1.alloc _, h2, by simp; omega⟩
    · rw [List.mem_singleton] at hx
      subst hx
      exact ⟨rowAt_new w vs t, h.only.size, by simp⟩
  ne := by
    have := h.fresh (Nat.le_refl w.heap.size)
    simpa using this
  only := h.only.alloc _
  low := h.low }
theorem Lo.skip {L : List Nat} {w0 w : World} {l : List (Nat × List Value)} (h : Lo L w0 l w) (o : Obj) : Lo L w0 l (w.alloc o) where
  row := fun x hx => by
    obtain ⟨h1, h2, h3⟩ := h.row x hx
    exact ⟨h1.alloc _, h2, by simp; omega⟩
  ne := h.ne
  only := h.only.alloc _
  low := h.low
theorem Lo.call {L L' : List Nat} {w0 w w' : World} {l : List (Nat × List Value)} (h : Lo L w0 l w) (ho : Only L' w w') (hL : ∀ k ∈ L', k ∈ L) : Lo L w0 l w' where
  row := fun x hx => by
    obtain ⟨h1, h2, h3⟩ := h.row x hx
    refine ⟨h1.block (ho.block _ h3 (fun q => ?_)), h2, Nat.lt_of_lt_of_le h3 ho.size⟩
    have := h.low _ (hL _ q)
    omega
  ne := h.ne
  only := h.only.via ho (fun i hi => Or.inl (hL i hi))
  low := h.low
theorem Lo.below {L : List Nat} {w0 w w' : World} {l : List (Nat × List Value)} (h : Lo L w0 l w) (hb : Below w.heap.size w w') : Lo L w0 l w' :=
  h.call (L' := []) (Only.below hb) (fun k hk => by cases hk)
theorem Lo.drewN {L : List Nat} {w0 w : World} {l : List (Nat × List Value)} (h : Lo L w0 l w) (n : Nat) : Lo L w0 l (w.drewN n) := h.below (below_drewN _ _)
theorem Lo.drew {L : List Nat} {w0 w : World} {l : List (Nat × List Value)} (h : Lo L w0 l w) : Lo L w0 l w.drew := h.below ((Below.refl _ _).drew)
theorem Lo.made {L : List Nat} {w0 w W2 : World} {l : List (Nat × List Value)} {vs : List Value} (h : Lo L w0 l w) (hR : RowAt W2 w.heap.size vs) (hb : Below w.heap.size w W2) (hz : W2.heap.size = w.heap.size + 1) : Lo L w0 (l ++ [(w.heap.size, vs)]) W2 where
  row := fun x hx => by
    rcases List.mem_append.1 hx with hx | hx
    · exact (h.below hb).row x hx
    · rw [List.mem_singleton] at hx
      subst hx
      exact ⟨hR, h.only.size, by rw [hz]; exact Nat.lt_succ_self _⟩
  ne := by
    have := h.fresh (Nat.le_refl w.heap.size)
    simpa using this
  only := (h.below hb).only
  low := h.low
theorem Lo.madeB {L : List Nat} {w0 w W2 : World} {l : List (Nat × List Value)} {vs : List Value} (h : Lo L w0 l w) (B : Nat) (hB : w.heap.size = B) (hR : RowAt W2 w.heap.size vs) (hb : Below w.heap.size w W2) (hz : W2.heap.size = w.heap.size + 1) : Lo L w0 (l ++ [(B, vs)]) W2 := by
  subst hB
  exact h.made hR hb hz
theorem Lo.put {L : List Nat} {w0 w : World} {l : List (Nat × List Value)} (h : Lo L w0 l w) (k : Nat) (x : Nat × List Value) (hx : l[k]? = some x) (us : List Value) (hl : us.length = x.2.length) : Lo L w0 (l.set k (x.1, us)) (w.setCells x.1 0 us) where
  row := fun y hy => by
    obtain ⟨hk, hke⟩ := List.getElem?_eq_some_iff.1 hx
    obtain ⟨j, hj, rfl⟩ := List.getElem_of_mem hy
    rw [List.length_set] at hj
    rw [List.getElem_set, heap_setCells]
    by_cases e : k = j
    · subst e
      rw [if_pos rfl]
      obtain ⟨h1, h2, h3⟩ := h.row x (List.mem_of_getElem? hx)
      exact ⟨h1.put us hl, h2, h3⟩
    · rw [if_neg e]
      obtain ⟨h1, h2, h3⟩ := h.row l[j] (List.getElem_mem hj)
      refine ⟨h1.put_other _ _ _ (fun q => ?_), h2, h3⟩
      have hn := List.pairwise_iff_getElem.1 h.ne
      have e1 : (l.map (·.1))[k]'(by simpa using hk) = (l.map (·.1))[j]'(by simpa using hj) := by
        simp only [List.getElem_map]
        rw [hke]; exact q.symm
      rcases Nat.lt_or_ge k j with c | c
      · exact absurd e1 (hn k j _ _ c)
      · exact absurd e1.symm (hn j k _ _ (by omega))
  ne := by
    obtain ⟨hk, hke⟩ := List.getElem?_eq_some_iff.1 hx
    have : (l.set k (x.1, us)).map (·.1) = l.map (·.1) := by
      rw [List.map_set]
      apply List.ext_getElem
      · simp
      · intro j h1 h2
        rw [List.getElem_set]
        split
        · rename_i e; subst e; simp [hke]
        · rfl
    rw [this]; exact h.ne
  only := by
    obtain ⟨h1, h2, h3⟩ := h.row x (List.mem_of_getElem? hx)
    exact h.only.via ((Only.refl [x.1] w).setCells x.1 (by simp) us 0 w) (fun i hi => by rw [List.mem_singleton] at hi; subst hi; exact Or.inr h2)
  low := h.low
theorem Lo.cut {L : List Nat} {w0 w : World} {l : List (Nat × List Value)} (h : Lo L w0 l w) (k : Nat) : Lo L w0 (l.take k) w where
  row := fun x hx => h.row x (List.mem_of_mem_take hx)
  ne := by
    rw [List.map_take]
    exact h.ne.sublist (List.take_sublist _ _)
  only := h.only
  low := h.low
theorem RowAt.page {w : World} {b : Nat} {p : List UInt8} (h : RowAt w b (byteVals p)) (hp : p.length = 64) : PageAt w b p := ⟨hp, h.range, by have := h.free; rwa [byteVals_length, hp] at this⟩
theorem PageAt.rowAt {w : World} {b : Nat} {p : List UInt8} (h : PageAt w b p) : RowAt w b (byteVals p) := ⟨h.range, by rw [byteVals_length, h.len]; exact h.free⟩
theorem Lo.ctx {L : List Nat} {w0 w : World} {l : List (Nat × List Value)} {B : Nat} {b : Blk} {s : Sto} {n I : Int} (h : Lo [] w0 l w) (c : Ctx w0 B b s n I) : Ctx w B b s n I := c.only h.only (by simp) (by simp)
theorem Lo.bel {w0 w : World} {l : List (Nat × List Value)} (h : Lo [] w0 l w) : Below w0.heap.size w0 w := ⟨h.only.os, h.only.tape, h.only.output, h.only.size, fun k hk => h.only.block k hk (by simp)⟩
theorem Lo.store {w0 w : World} {l : List (Nat × List Value)} {b : Blk} {s : Sto} (h : Lo [] w0 l w) (c : StoreAt w0 b s) : StoreAt w b s := c.only h.only (by simp)
theorem RowAt.plan {w : World} {B st : Nat} {n I : Int} {vs : List Value} (h : RowAt w B (.pointer (some ⟨st, 0, none⟩) :: .int .i64 n :: .int .i64 I :: vs)) : w.rangeAt B 1 (planL n I) := by
  intro j v hv
  have h2 : (Value.pointer (some ⟨st, 0, none⟩) :: Value.int .i64 n :: Value.int .i64 I :: vs)[1 + j]? = some v := by
    match j, hv with
    | 0, hv => exact hv
    | 1, hv => exact hv
    | n + 2, hv => simp [planL] at hv
  have := h.range (1 + j) v h2
  rwa [Nat.zero_add] at this
theorem RowAt.base {w : World} {B st : Nat} {n I : Int} {vs : List Value} (h : RowAt w B (.pointer (some ⟨st, 0, none⟩) :: .int .i64 n :: .int .i64 I :: vs)) : w.rangeAt B 0 (baseL st n I) := by
  intro j v hv
  have h2 : (Value.pointer (some ⟨st, 0, none⟩) :: Value.int .i64 n :: Value.int .i64 I :: vs)[j]? = some v := by
    match j, hv with
    | 0, hv => exact hv
    | 1, hv => exact hv
    | 2, hv => exact hv
    | n + 3, hv => simp [baseL] at hv
  have := h.range j v h2
  rwa [Nat.zero_add] at this ⊢
theorem wpList_load_plan {ops : Array Oper} {rest : List Oper} {op : Oper} {a : Act} {Q : Exit → Act → World → Prop} {w : World} {B o : Nat} {n I : Int} (k : w.rangeAt B o (planL n I)) (hgd : op.guard = none) (u : Operand) (ho : op.op = .load 68 u)
    (hx : a.eval u = .pointer (some ⟨B, o, none⟩)) (hn : wpList Tryz.prog ops Q rest (a.put op.dst (planV n I)) w) : wpList Tryz.prog ops Q (op :: rest) a w :=
  wpList_load_mid hgd 68 u ho B o hx _ _ k Tryz.underlying68 rfl (by kernel_rfl) hn
theorem wpList_load_base {ops : Array Oper} {rest : List Oper} {op : Oper} {a : Act} {Q : Exit → Act → World → Prop} {w : World} {B o st : Nat} {n I : Int} (k : w.rangeAt B o (baseL st n I)) (hgd : op.guard = none) (u : Operand) (ho : op.op = .load 70 u)
    (hx : a.eval u = .pointer (some ⟨B, o, none⟩)) (hn : wpList Tryz.prog ops Q rest (a.put op.dst (baseV st n I)) w) : wpList Tryz.prog ops Q (op :: rest) a w :=
  wpList_load_mid hgd 70 u ho B o hx _ _ k Tryz.underlying70 rfl (by kernel_rfl) hn
def exV {α : Type} (f : α → Value) (z : Value) : Except Int α → Value
  | .ok a => .tuple #[f a, .int .i64 0]
  | .error e => .tuple #[z, .int .i64 e]
theorem iget_any (p : List UInt8) (i : Int) (w : World) (hp : p.length = 64) : Calls Tryz.prog 126 #[pageV p, .int .i64 ((i - 1) % 2)] w fun e w' => e = .returned (inoV (Ii.getI p (Fs.halfAt i))) ∧ Below w.heap.size w w' := by
  unfold Fs.halfAt
  have : (i - 1) % 2 = 0 ∨ (i - 1) % 2 = 1 := by omega
  rcases this with e | e <;> rw [e]
  · exact iget_0 p w hp
  · exact iget_1 p w hp
theorem iput_any (p : List UInt8) (i : Int) (x : Ino) (w : World) (hp : p.length = 64) : Calls Tryz.prog 84 #[pageV p, .int .i64 ((i - 1) % 2), inoV x] w fun e w' => e = .returned (pageV (Ii.putN p (Fs.halfAt i) x)) ∧ Below w.heap.size w w' := by
  unfold Fs.halfAt
  have : (i - 1) % 2 = 0 ∨ (i - 1) % 2 = 1 := by omega
  rcases this with e | e <;> rw [e]
  · exact put_0 p x w hp
  · exact put_1 p x w hp
end
end Go.Proofs.YtmpfcgjjejlhdaaGreat
