/-
  Proved: HeadReads returns true for every page and every slice of pages: the page is the head's that the document says, or isn't whole; the next number is what it says.
  Conditions: none beside the statement's own.
-/
import Derived.Test.YtlbadfeobpnlcaaHbuild
namespace Go.Proofs.Ytlbadfeobpnlcaa.headReads
open Go.ChangeShapes Go.WideShapes Go.ChangeAt Go.RowKit
open Hd (Head rightB pageH)

/-- what stands in memory: the head that was told, the document's own, the page, the pages -/
structure RrS (w0 : World) (p : List UInt8) (A : Option Addr) (n : Nat) (ps : List (List UInt8)) (C D : Nat) (h : Head) (W : World) : Prop where
  own : HeadAt W C h
  ref : HeadAt W D h
  page : PageAt W w0.heap.size p
  row : PageRow W A n ps
  below : Below w0.heap.size w0 W
theorem RrS.call {w0 : World} {p : List UInt8} {A : Option Addr} {n : Nat} {ps : List (List UInt8)} {C D : Nat} {h : Head} {W W' : World} (k : RrS w0 p A n ps C D h W) (hb : Below W.heap.size W W') : RrS w0 p A n ps C D h W' :=
  ⟨k.own.below hb k.own.lt, k.ref.below hb k.ref.lt, k.page.below hb k.page.lt, k.row.step hb, k.below.trans (hb.mono k.below.size)⟩
theorem RrS.drew {w0 : World} {p : List UInt8} {A : Option Addr} {n : Nat} {ps : List (List UInt8)} {C D : Nat} {h : Head} {W : World} (k : RrS w0 p A n ps C D h W) : RrS w0 p A n ps C D h W.drew :=
  ⟨k.own.drew, k.ref.drew, k.page.drew, k.row.drew, k.below.drew⟩

set_option maxHeartbeats 8000000 in
set_option maxRecDepth 100000 in
theorem walk_long (p : List UInt8) (A : Option Addr) (n c : Nat) (ps : List (List UInt8)) (w : World) (hp : p.length = 64) (hrow : PageRow w A n ps) (hl : 40 < n) :
    Calls Try.prog 4 #[pageV p, .slice A n c] w fun e w' => e = .returned (.bool true) ∧ Below w.heap.size w w' := by
  have HPL := Lib.hid hp
  have hn := hrow.small
  unfold maxLen at hn
  have HD := Lib.hid (fun (w : World) => decode_any p w hp)
  have HR := Lib.hid (fun (w : World) => refRead_any p w hp)
  have HS : Hid (PageAt (w.alloc (.cells (byteVals p).toArray 28)) w.heap.size p ∧ PageRow (w.alloc (.cells (byteVals p).toArray 28)) A n ps ∧ Below w.heap.size w (w.alloc (.cells (byteVals p).toArray 28))) :=
    Lib.hid ⟨pageAt_new w p _ hp, hrow.step ((Below.refl _ _).alloc (Nat.le_refl _) _), (Below.refl _ _).alloc (Nat.le_refl _) _⟩
  have E1 := fun (x y : Operand) (w : World) => run_eqGuard_ref w x y (Hd.decH p) (Hd.decH p)
  have E2 : ∀ w, (binOp .eql 26 (headV (Hd.decH p)) (headV (Hd.decH p))).run Try.prog w = .ok (.bool true) w := fun w => by rw [run_eql_ref w _ _, decide_eq_true rfl]
  have hl' : (40 : Int) < (n : Int) := by omega
  clear hp hrow
  generalize Hd.decH p = h at HD HR E1 E2
  generalize Hd.wholeB p = b at HD HR
  unfold pageV
  go_enter Try.func4, Try.ntmps4
  go_wp2_with fail
  refine (awake_any _).mono ?_
  rintro e w1 ⟨rfl, hb1⟩
  have P1 : Hid (PageAt w1 w.heap.size p) := Lib.hid (HS.out.1.below (by simpa using hb1) (by omega))
  have R1 : Hid (PageRow w1 A n ps) := Lib.hid (HS.out.2.1.step hb1)
  have B1 : Hid (Below w.heap.size w w1) := Lib.hid (HS.out.2.2.trans (hb1.mono (by simp)))
  clear HS hb1
  go_wp2_with (with_reducible refine wpList_load_page P1.out rfl (.tmp 2) rfl rfl ?_)
  refine (HD.out _).mono ?_
  rintro e w2 ⟨rfl, hb2⟩
  have P2 := Lib.hid (P1.out.below hb2 P1.out.lt)
  have R2 := Lib.hid (R1.out.step hb2)
  have B2 := Lib.hid (B1.out.trans (hb2.mono B1.out.size))
  clear P1 R1 B1 hb2 HD
  go_wp2_with (first
    | ((with_reducible refine wpList_store_newhead headT (h := h) rfl (.tmp 5) (.tmp 14) rfl rfl ?_ ?_ ?_); (exact rfl); (exact rfl); intro W3 hH hB3 hz3; have H3 := Lib.hid hH; have P3 := Lib.hid (P2.out.below hB3 P2.out.lt); have R3 := Lib.hid (R2.out.step hB3); have B3 := Lib.hid (B2.out.trans (hB3.mono B2.out.size)); clear P2 R2 B2 hH hB3 hz3; generalize w2.heap.size = C at H3 ⊢)
    | ((with_reducible refine wpList_load_page P3.out rfl (.tmp 2) rfl rfl ?_)))
  refine (HR.out _).mono ?_
  rintro e w4 ⟨rfl, hb4⟩
  have H4 := Lib.hid (H3.out.below hb4 H3.out.lt)
  have P4 := Lib.hid (P3.out.below hb4 P3.out.lt)
  have R4 := Lib.hid (R3.out.step hb4)
  have B4 := Lib.hid (B3.out.trans (hb4.mono B3.out.size))
  clear H3 P3 R3 B3 hb4 HR
  go_wp2_with ((with_reducible refine wpList_store_newhead refT (h := h) rfl (.tmp 7) (.tmp 19) rfl rfl ?_ ?_ ?_); (exact rfl); (exact rfl); intro W5 hH hB5 hz5; have S5 : Hid (RrS w p A n ps C w4.heap.size h W5) := Lib.hid ⟨H4.out.below hB5 H4.out.lt, hH, P4.out.below hB5 P4.out.lt, R4.out.step hB5, B4.out.trans (hB5.mono B4.out.size)⟩; clear H4 P4 R4 B4 hH hB5 hz5; generalize w4.heap.size = D at S5 ⊢)
  refine wp_region_noPanic ?_
  refine wp_region_held_drew (S := RrS w p A n ps C D h) (by kernel_rfl) S5.out.drew (fun hHeld => ?_)
  refine take_at (i := 0) (d := some 21) (v := headV h) rfl rfl (by kernel_rfl) (by kernel_rfl) (by kernel_rfl) (fun _ _ _ h => h) (yields_head headT (by kernel_rfl) (.tmp 5) rfl rfl (fun _ hSw => RrS.own hSw)) hHeld ?_
  (try simp only [Act.put, List.setIfInBounds_toArray, List.set_cons_zero, List.set_cons_succ])
  refine take_at (i := 1) (d := some 22) (v := headV h) rfl rfl (by kernel_rfl) (by kernel_rfl) (by kernel_rfl) (fun _ _ _ h => h) (yields_head refT (by kernel_rfl) (.tmp 7) rfl rfl (fun _ hSw => RrS.ref hSw)) hHeld ?_
  (try simp only [Act.put, List.setIfInBounds_toArray, List.set_cons_zero, List.set_cons_succ])
  refine take_at (i := 2) (d := some 23) (v := .bool true) rfl rfl (by kernel_rfl) (by kernel_rfl) (by kernel_rfl) (fun _ _ _ h => h) (Or.inl ⟨by kernel_rfl, ?_⟩) hHeld ?_
  · intro w hSw; go_simp
  (try simp only [Act.put, List.setIfInBounds_toArray, List.set_cons_zero, List.set_cons_succ])
  refine take_at (i := 3) (d := some 24) (v := .bool true) rfl rfl (by kernel_rfl) (by kernel_rfl) (by kernel_rfl) (fun _ _ _ h => h) (Or.inl ⟨by kernel_rfl, ?_⟩) hHeld ?_
  · intro w hSw; go_simp
  (try simp only [Act.put, List.setIfInBounds_toArray, List.set_cons_zero, List.set_cons_succ])
  refine take_at (i := 4) (d := some 25) (v := .bool b) rfl rfl (by kernel_rfl) (by kernel_rfl) (by kernel_rfl) (fun _ _ _ h => h) (Or.inl ⟨by kernel_rfl, ?_⟩) hHeld ?_
  · intro w hSw; go_simp
  (try simp only [Act.put, List.setIfInBounds_toArray, List.set_cons_zero, List.set_cons_succ])
  refine take_at (i := 5) (d := some 26) (v := .bool b) rfl rfl (by kernel_rfl) (by kernel_rfl) (by kernel_rfl) (fun _ _ _ h => h) (Or.inl ⟨by kernel_rfl, ?_⟩) hHeld ?_
  · intro w hSw; go_simp
  (try simp only [Act.put, List.setIfInBounds_toArray, List.set_cons_zero, List.set_cons_succ])
  refine take_at (i := 6) (d := some 27) (v := .bool true) rfl rfl (by kernel_rfl) (by kernel_rfl) (by kernel_rfl) (fun _ _ _ h => h) (Or.inl ⟨by kernel_rfl, ?_⟩) hHeld ?_
  · intro w hSw; go_simp
  (try simp only [Act.put, List.setIfInBounds_toArray, List.set_cons_zero, List.set_cons_succ])
  refine take_at (i := 7) (d := some 28) (v := .bool true) rfl rfl (by kernel_rfl) (by kernel_rfl) (by kernel_rfl) (fun _ _ _ h => h) (Or.inl ⟨by kernel_rfl, ?_⟩) hHeld ?_
  · intro w hSw; go_simp
  (try simp only [Act.put, List.setIfInBounds_toArray, List.set_cons_zero, List.set_cons_succ])
  refine take_at (i := 8) (d := some 29) (v := .bool true) rfl rfl (by kernel_rfl) (by kernel_rfl) (by kernel_rfl) (fun _ _ _ h => h) (Or.inl ⟨by kernel_rfl, ?_⟩) hHeld ?_
  · intro w hSw; go_simp
  (try simp only [Act.put, List.setIfInBounds_toArray, List.set_cons_zero, List.set_cons_succ])
  refine take_at (i := 9) (d := some 30) (v := .slice A n c) rfl rfl (by kernel_rfl) (by kernel_rfl) (by kernel_rfl) (fun _ _ _ h => h) (Or.inl ⟨by kernel_rfl, ?_⟩) hHeld ?_
  · intro w hSw; go_simp
  (try simp only [Act.put, List.setIfInBounds_toArray, List.set_cons_zero, List.set_cons_succ])
  refine take_at (i := 10) (d := some 31) (v := .int .i64 n) rfl rfl (by kernel_rfl) (by kernel_rfl) (by kernel_rfl) (fun _ _ _ h => h) (Or.inl ⟨by kernel_rfl, ?_⟩) hHeld ?_
  · intro w hSw; go_simp
  (try simp only [Act.put, List.setIfInBounds_toArray, List.set_cons_zero, List.set_cons_succ])
  refine take_at (i := 11) (d := some 32) (v := .bool true) rfl rfl (by kernel_rfl) (by kernel_rfl) (by kernel_rfl) (fun _ _ _ h => h) (Or.inl ⟨by kernel_rfl, ?_⟩) hHeld ?_
  · intro w hSw; go_simp
  (try simp only [Act.put, List.setIfInBounds_toArray, List.set_cons_zero, List.set_cons_succ])
  refine take_at (i := 12) (d := some 33) (v := .bool true) rfl rfl (by kernel_rfl) (by kernel_rfl) (by kernel_rfl) (fun _ _ _ h => h) (Or.inl ⟨by kernel_rfl, ?_⟩) hHeld ?_
  · intro w hSw; go_simp
  (try simp only [Act.put, List.setIfInBounds_toArray, List.set_cons_zero, List.set_cons_succ])
  refine take_at (i := 13) (d := some 34) (v := undef) rfl rfl (by kernel_rfl) (by kernel_rfl) (by kernel_rfl) (fun _ _ _ h => h) (Or.inr ⟨by kernel_rfl, rfl⟩) hHeld ?_
  (try simp only [Act.put, List.setIfInBounds_toArray, List.set_cons_zero, List.set_cons_succ])
  refine take_at (i := 14) (d := some 35) (v := undef) rfl rfl (by kernel_rfl) (by kernel_rfl) (by kernel_rfl) (fun _ _ _ h => h) (Or.inr ⟨by kernel_rfl, rfl⟩) hHeld ?_
  (try simp only [Act.put, List.setIfInBounds_toArray, List.set_cons_zero, List.set_cons_succ])
  refine take_at (i := 15) (d := some 36) (v := undef) rfl rfl (by kernel_rfl) (by kernel_rfl) (by kernel_rfl) (fun _ _ _ h => h) (Or.inr ⟨by kernel_rfl, rfl⟩) hHeld ?_
  (try simp only [Act.put, List.setIfInBounds_toArray, List.set_cons_zero, List.set_cons_succ])
  refine take_at (i := 16) (d := some 37) (v := undef) rfl rfl (by kernel_rfl) (by kernel_rfl) (by kernel_rfl) (fun _ _ _ h => h) (Or.inr ⟨by kernel_rfl, rfl⟩) hHeld ?_
  (try simp only [Act.put, List.setIfInBounds_toArray, List.set_cons_zero, List.set_cons_succ])
  refine take_at (i := 17) (d := some 38) (v := undef) rfl rfl (by kernel_rfl) (by kernel_rfl) (by kernel_rfl) (fun _ _ _ h => h) (Or.inr ⟨by kernel_rfl, rfl⟩) hHeld ?_
  (try simp only [Act.put, List.setIfInBounds_toArray, List.set_cons_zero, List.set_cons_succ])
  refine take_at (i := 18) (d := some 39) (v := undef) rfl rfl (by kernel_rfl) (by kernel_rfl) (by kernel_rfl) (fun _ _ _ h => h) (Or.inr ⟨by kernel_rfl, rfl⟩) hHeld ?_
  (try simp only [Act.put, List.setIfInBounds_toArray, List.set_cons_zero, List.set_cons_succ])
  refine take_at (i := 19) (d := some 40) (v := undef) rfl rfl (by kernel_rfl) (by kernel_rfl) (by kernel_rfl) (fun _ _ _ h => h) (Or.inr ⟨by kernel_rfl, rfl⟩) hHeld ?_
  (try simp only [Act.put, List.setIfInBounds_toArray, List.set_cons_zero, List.set_cons_succ])
  refine take_at (i := 20) (d := some 41) (v := undef) rfl rfl (by kernel_rfl) (by kernel_rfl) (by kernel_rfl) (fun _ _ _ h => h) (Or.inr ⟨by kernel_rfl, rfl⟩) hHeld ?_
  (try simp only [Act.put, List.setIfInBounds_toArray, List.set_cons_zero, List.set_cons_succ])
  refine take_at (i := 21) (d := some 42) (v := undef) rfl rfl (by kernel_rfl) (by kernel_rfl) (by kernel_rfl) (fun _ _ _ h => h) (Or.inr ⟨by kernel_rfl, rfl⟩) hHeld ?_
  (try simp only [Act.put, List.setIfInBounds_toArray, List.set_cons_zero, List.set_cons_succ])
  refine take_at (i := 22) (d := some 43) (v := undef) rfl rfl (by kernel_rfl) (by kernel_rfl) (by kernel_rfl) (fun _ _ _ h => h) (Or.inr ⟨by kernel_rfl, rfl⟩) hHeld ?_
  (try simp only [Act.put, List.setIfInBounds_toArray, List.set_cons_zero, List.set_cons_succ])
  refine take_at (i := 23) (d := some 44) (v := undef) rfl rfl (by kernel_rfl) (by kernel_rfl) (by kernel_rfl) (fun _ _ _ h => h) (Or.inr ⟨by kernel_rfl, rfl⟩) hHeld ?_
  (try simp only [Act.put, List.setIfInBounds_toArray, List.set_cons_zero, List.set_cons_succ])
  refine take_at (i := 24) (d := some 45) (v := undef) rfl rfl (by kernel_rfl) (by kernel_rfl) (by kernel_rfl) (fun _ _ _ h => h) (Or.inr ⟨by kernel_rfl, rfl⟩) hHeld ?_
  (try simp only [Act.put, List.setIfInBounds_toArray, List.set_cons_zero, List.set_cons_succ])
  refine take_at (i := 25) (d := some 46) (v := undef) rfl rfl (by kernel_rfl) (by kernel_rfl) (by kernel_rfl) (fun _ _ _ h => h) (Or.inr ⟨by kernel_rfl, rfl⟩) hHeld ?_
  (try simp only [Act.put, List.setIfInBounds_toArray, List.set_cons_zero, List.set_cons_succ])
  refine take_at (i := 26) (d := some 47) (v := undef) rfl rfl (by kernel_rfl) (by kernel_rfl) (by kernel_rfl) (fun _ _ _ h => h) (Or.inr ⟨by kernel_rfl, rfl⟩) hHeld ?_
  (try simp only [Act.put, List.setIfInBounds_toArray, List.set_cons_zero, List.set_cons_succ])
  refine take_at (i := 27) (d := some 48) (v := .bool true) rfl rfl (by kernel_rfl) (by kernel_rfl) (by kernel_rfl) (fun _ _ _ h => h) (Or.inl ⟨by kernel_rfl, ?_⟩) hHeld ?_
  · intro w hSw; go_simp
  (try simp only [Act.put, List.setIfInBounds_toArray, List.set_cons_zero, List.set_cons_succ])
  refine take_at (i := 28) (d := some 49) (v := .bool true) rfl rfl (by kernel_rfl) (by kernel_rfl) (by kernel_rfl) (fun _ _ _ h => h) (Or.inl ⟨by kernel_rfl, ?_⟩) hHeld ?_
  · intro w hSw; go_simp
  (try simp only [Act.put, List.setIfInBounds_toArray, List.set_cons_zero, List.set_cons_succ])
  refine take_at (i := 29) (d := some 4) (v := .bool true) rfl rfl (by kernel_rfl) (by kernel_rfl) (by kernel_rfl) (fun _ _ _ h => h) (Or.inl ⟨by kernel_rfl, ?_⟩) hHeld ?_
  · intro w hSw; go_simp
  (try simp only [Act.put, List.setIfInBounds_toArray, List.set_cons_zero, List.set_cons_succ])
  refine wpAnyH_done (by kernel_rfl) ?_ _
  refine NoPanic.normal ?_
  go_wp2_with fail
  go_ret
  exact ⟨rfl, RrS.below hHeld⟩

set_option maxHeartbeats 8000000 in
set_option maxRecDepth 100000 in
theorem walk_short (p : List UInt8) (A : Option Addr) (n c : Nat) (ps : List (List UInt8)) (w : World) (hp : p.length = 64) (hrow : PageRow w A n ps) (hl : ¬ 40 < n) :
    Calls Try.prog 4 #[pageV p, .slice A n c] w fun e w' => e = .returned (.bool true) ∧ Below w.heap.size w w' := by
  have HPL := Lib.hid hp
  have hn := hrow.small
  unfold maxLen at hn
  have HD := Lib.hid (fun (w : World) => decode_any p w hp)
  have HR := Lib.hid (fun (w : World) => refRead_any p w hp)
  have HS : Hid (PageAt (w.alloc (.cells (byteVals p).toArray 28)) w.heap.size p ∧ PageRow (w.alloc (.cells (byteVals p).toArray 28)) A n ps ∧ Below w.heap.size w (w.alloc (.cells (byteVals p).toArray 28))) :=
    Lib.hid ⟨pageAt_new w p _ hp, hrow.step ((Below.refl _ _).alloc (Nat.le_refl _) _), (Below.refl _ _).alloc (Nat.le_refl _) _⟩
  have E1 := fun (x y : Operand) (w : World) => run_eqGuard_ref w x y (Hd.decH p) (Hd.decH p)
  have E2 : ∀ w, (binOp .eql 26 (headV (Hd.decH p)) (headV (Hd.decH p))).run Try.prog w = .ok (.bool true) w := fun w => by rw [run_eql_ref w _ _, decide_eq_true rfl]
  have hl' : ¬ (40 : Int) < (n : Int) := by omega
  clear hp hrow
  generalize Hd.decH p = h at HD HR E1 E2
  generalize Hd.wholeB p = b at HD HR
  unfold pageV
  go_enter Try.func4, Try.ntmps4
  go_wp2_with fail
  refine (awake_any _).mono ?_
  rintro e w1 ⟨rfl, hb1⟩
  have P1 : Hid (PageAt w1 w.heap.size p) := Lib.hid (HS.out.1.below (by simpa using hb1) (by omega))
  have R1 : Hid (PageRow w1 A n ps) := Lib.hid (HS.out.2.1.step hb1)
  have B1 : Hid (Below w.heap.size w w1) := Lib.hid (HS.out.2.2.trans (hb1.mono (by simp)))
  clear HS hb1
  go_wp2_with (with_reducible refine wpList_load_page P1.out rfl (.tmp 2) rfl rfl ?_)
  refine (HD.out _).mono ?_
  rintro e w2 ⟨rfl, hb2⟩
  have P2 := Lib.hid (P1.out.below hb2 P1.out.lt)
  have R2 := Lib.hid (R1.out.step hb2)
  have B2 := Lib.hid (B1.out.trans (hb2.mono B1.out.size))
  clear P1 R1 B1 hb2 HD
  go_wp2_with (first
    | ((with_reducible refine wpList_store_newhead headT (h := h) rfl (.tmp 5) (.tmp 14) rfl rfl ?_ ?_ ?_); (exact rfl); (exact rfl); intro W3 hH hB3 hz3; have H3 := Lib.hid hH; have P3 := Lib.hid (P2.out.below hB3 P2.out.lt); have R3 := Lib.hid (R2.out.step hB3); have B3 := Lib.hid (B2.out.trans (hB3.mono B2.out.size)); clear P2 R2 B2 hH hB3 hz3; generalize w2.heap.size = C at H3 ⊢)
    | ((with_reducible refine wpList_load_page P3.out rfl (.tmp 2) rfl rfl ?_)))
  refine (HR.out _).mono ?_
  rintro e w4 ⟨rfl, hb4⟩
  have H4 := Lib.hid (H3.out.below hb4 H3.out.lt)
  have P4 := Lib.hid (P3.out.below hb4 P3.out.lt)
  have R4 := Lib.hid (R3.out.step hb4)
  have B4 := Lib.hid (B3.out.trans (hb4.mono B3.out.size))
  clear H3 P3 R3 B3 hb4 HR
  go_wp2_with ((with_reducible refine wpList_store_newhead refT (h := h) rfl (.tmp 7) (.tmp 19) rfl rfl ?_ ?_ ?_); (exact rfl); (exact rfl); intro W5 hH hB5 hz5; have S5 : Hid (RrS w p A n ps C w4.heap.size h W5) := Lib.hid ⟨H4.out.below hB5 H4.out.lt, hH, P4.out.below hB5 P4.out.lt, R4.out.step hB5, B4.out.trans (hB5.mono B4.out.size)⟩; clear H4 P4 R4 B4 hH hB5 hz5; generalize w4.heap.size = D at S5 ⊢)
  refine wp_region_noPanic ?_
  refine wp_region_held_drew (S := RrS w p A n ps C D h) (by kernel_rfl) S5.out.drew (fun hHeld => ?_)
  refine take_at (i := 0) (d := some 21) (v := headV h) rfl rfl (by kernel_rfl) (by kernel_rfl) (by kernel_rfl) (fun _ _ _ h => h) (yields_head headT (by kernel_rfl) (.tmp 5) rfl rfl (fun _ hSw => RrS.own hSw)) hHeld ?_
  (try simp only [Act.put, List.setIfInBounds_toArray, List.set_cons_zero, List.set_cons_succ])
  refine take_at (i := 1) (d := some 22) (v := headV h) rfl rfl (by kernel_rfl) (by kernel_rfl) (by kernel_rfl) (fun _ _ _ h => h) (yields_head refT (by kernel_rfl) (.tmp 7) rfl rfl (fun _ hSw => RrS.ref hSw)) hHeld ?_
  (try simp only [Act.put, List.setIfInBounds_toArray, List.set_cons_zero, List.set_cons_succ])
  refine take_at (i := 2) (d := some 23) (v := .bool true) rfl rfl (by kernel_rfl) (by kernel_rfl) (by kernel_rfl) (fun _ _ _ h => h) (Or.inl ⟨by kernel_rfl, ?_⟩) hHeld ?_
  · intro w hSw; go_simp
  (try simp only [Act.put, List.setIfInBounds_toArray, List.set_cons_zero, List.set_cons_succ])
  refine take_at (i := 3) (d := some 24) (v := .bool true) rfl rfl (by kernel_rfl) (by kernel_rfl) (by kernel_rfl) (fun _ _ _ h => h) (Or.inl ⟨by kernel_rfl, ?_⟩) hHeld ?_
  · intro w hSw; go_simp
  (try simp only [Act.put, List.setIfInBounds_toArray, List.set_cons_zero, List.set_cons_succ])
  refine take_at (i := 4) (d := some 25) (v := .bool b) rfl rfl (by kernel_rfl) (by kernel_rfl) (by kernel_rfl) (fun _ _ _ h => h) (Or.inl ⟨by kernel_rfl, ?_⟩) hHeld ?_
  · intro w hSw; go_simp
  (try simp only [Act.put, List.setIfInBounds_toArray, List.set_cons_zero, List.set_cons_succ])
  refine take_at (i := 5) (d := some 26) (v := .bool b) rfl rfl (by kernel_rfl) (by kernel_rfl) (by kernel_rfl) (fun _ _ _ h => h) (Or.inl ⟨by kernel_rfl, ?_⟩) hHeld ?_
  · intro w hSw; go_simp
  (try simp only [Act.put, List.setIfInBounds_toArray, List.set_cons_zero, List.set_cons_succ])
  refine take_at (i := 6) (d := some 27) (v := .bool true) rfl rfl (by kernel_rfl) (by kernel_rfl) (by kernel_rfl) (fun _ _ _ h => h) (Or.inl ⟨by kernel_rfl, ?_⟩) hHeld ?_
  · intro w hSw; go_simp
  (try simp only [Act.put, List.setIfInBounds_toArray, List.set_cons_zero, List.set_cons_succ])
  refine take_at (i := 7) (d := some 28) (v := .bool true) rfl rfl (by kernel_rfl) (by kernel_rfl) (by kernel_rfl) (fun _ _ _ h => h) (Or.inl ⟨by kernel_rfl, ?_⟩) hHeld ?_
  · intro w hSw; go_simp
  (try simp only [Act.put, List.setIfInBounds_toArray, List.set_cons_zero, List.set_cons_succ])
  refine take_at (i := 8) (d := some 29) (v := .bool true) rfl rfl (by kernel_rfl) (by kernel_rfl) (by kernel_rfl) (fun _ _ _ h => h) (Or.inl ⟨by kernel_rfl, ?_⟩) hHeld ?_
  · intro w hSw; go_simp
  (try simp only [Act.put, List.setIfInBounds_toArray, List.set_cons_zero, List.set_cons_succ])
  refine take_at (i := 9) (d := some 30) (v := .slice A n c) rfl rfl (by kernel_rfl) (by kernel_rfl) (by kernel_rfl) (fun _ _ _ h => h) (Or.inl ⟨by kernel_rfl, ?_⟩) hHeld ?_
  · intro w hSw; go_simp
  (try simp only [Act.put, List.setIfInBounds_toArray, List.set_cons_zero, List.set_cons_succ])
  refine take_at (i := 10) (d := some 31) (v := .int .i64 n) rfl rfl (by kernel_rfl) (by kernel_rfl) (by kernel_rfl) (fun _ _ _ h => h) (Or.inl ⟨by kernel_rfl, ?_⟩) hHeld ?_
  · intro w hSw; go_simp
  (try simp only [Act.put, List.setIfInBounds_toArray, List.set_cons_zero, List.set_cons_succ])
  refine take_at (i := 11) (d := some 32) (v := .bool false) rfl rfl (by kernel_rfl) (by kernel_rfl) (by kernel_rfl) (fun _ _ _ h => h) (Or.inl ⟨by kernel_rfl, ?_⟩) hHeld ?_
  · intro w hSw; go_simp
  (try simp only [Act.put, List.setIfInBounds_toArray, List.set_cons_zero, List.set_cons_succ])
  refine take_at (i := 12) (d := some 33) (v := .bool false) rfl rfl (by kernel_rfl) (by kernel_rfl) (by kernel_rfl) (fun _ _ _ h => h) (Or.inl ⟨by kernel_rfl, ?_⟩) hHeld ?_
  · intro w hSw; go_simp
  (try simp only [Act.put, List.setIfInBounds_toArray, List.set_cons_zero, List.set_cons_succ])
  refine take_at (i := 13) (d := some 34) (v := .slice A n c) rfl rfl (by kernel_rfl) (by kernel_rfl) (by kernel_rfl) (fun _ _ _ h => h) (Or.inl ⟨by kernel_rfl, ?_⟩) hHeld ?_
  · intro w hSw; go_simp
  (try simp only [Act.put, List.setIfInBounds_toArray, List.set_cons_zero, List.set_cons_succ])
  refine take_at (i := 15) (d := some 36) (v := .slice A n c) rfl rfl (by kernel_rfl) (by kernel_rfl) (by kernel_rfl) (fun _ _ _ h => h) (Or.inl ⟨by kernel_rfl, ?_⟩) hHeld ?_
  · intro w hSw; go_simp
  (try simp only [Act.put, List.setIfInBounds_toArray, List.set_cons_zero, List.set_cons_succ])
  refine wpAnyH_ready (rs := [14]) (by kernel_rfl) (by simp) ?_
  refine allReady_call 14 35 14 #[.tmp 34] #[37] #[.slice A n c] _ (next_any A n c ps _ (RrS.row hHeld)) (by kernel_rfl) (by kernel_rfl) (by kernel_rfl) (by kernel_rfl) (by simp only [List.map_toArray, List.map_cons, List.map_nil]; rfl) ?_ AllReadyH.nil
  intro w6 hb6
  have hH6 := RrS.call hHeld hb6
  refine ⟨hH6, ?_⟩
  clear hb6 hHeld
  (try simp only [Act.put, List.setIfInBounds_toArray, List.set_cons_zero, List.set_cons_succ])
  refine wpAnyH_ready (rs := [16]) (by kernel_rfl) (by simp) ?_
  refine allReady_call 16 37 15 #[.tmp 36] #[37] #[.slice A n c] _ (refNext_any A n c ps _ (RrS.row hH6)) (by kernel_rfl) (by kernel_rfl) (by kernel_rfl) (by kernel_rfl) (by simp only [List.map_toArray, List.map_cons, List.map_nil]; rfl) ?_ AllReadyH.nil
  intro w7 hb7
  have hHeld := RrS.call hH6 hb7
  refine ⟨hHeld, ?_⟩
  clear hb7 hH6
  (try simp only [Act.put, List.setIfInBounds_toArray, List.set_cons_zero, List.set_cons_succ])
  refine take_at (i := 17) (d := some 38) (v := .bool true) rfl rfl (by kernel_rfl) (by kernel_rfl) (by kernel_rfl) (fun _ _ _ h => h) (Or.inl ⟨by kernel_rfl, ?_⟩) hHeld ?_
  · intro w hSw; go_simp
  (try simp only [Act.put, List.setIfInBounds_toArray, List.set_cons_zero, List.set_cons_succ])
  refine take_at (i := 18) (d := some 39) (v := .bool true) rfl rfl (by kernel_rfl) (by kernel_rfl) (by kernel_rfl) (fun _ _ _ h => h) (Or.inl ⟨by kernel_rfl, ?_⟩) hHeld ?_
  · intro w hSw; go_simp
  (try simp only [Act.put, List.setIfInBounds_toArray, List.set_cons_zero, List.set_cons_succ])
  refine take_at (i := 19) (d := some 40) (v := pageV p) rfl rfl (by kernel_rfl) (by kernel_rfl) (by kernel_rfl) (fun _ _ _ h => h) (yields_page (by kernel_rfl) (.tmp 2) rfl rfl HPL.out (fun _ hSw => RrS.page hSw)) hHeld ?_
  (try simp only [Act.put, List.setIfInBounds_toArray, List.set_cons_zero, List.set_cons_succ])
  refine take_at (i := 22) (d := some 43) (v := pageV p) rfl rfl (by kernel_rfl) (by kernel_rfl) (by kernel_rfl) (fun _ _ _ h => h) (yields_page (by kernel_rfl) (.tmp 2) rfl rfl HPL.out (fun _ hSw => RrS.page hSw)) hHeld ?_
  (try simp only [Act.put, List.setIfInBounds_toArray, List.set_cons_zero, List.set_cons_succ])
  refine wpAnyH_ready (rs := [20, 23]) (by kernel_rfl) (by simp) ?_
  have hbb := (Below.refl (World.heap w7).size w7).alloc (Nat.le_refl _) (.cells (byteVals p).toArray 28)
  have hA := RrS.call hHeld hbb
  refine allReady_build HPL.out 20 41 (.tmp 40) (by kernel_rfl) (by kernel_rfl) (by kernel_rfl) (by rfl) hA ?_ ?_
  · have rA := row_one w7 p HPL.out 28
    clear hbb hHeld
    (try simp only [Act.put, List.setIfInBounds_toArray, List.set_cons_zero, List.set_cons_succ])
    generalize (World.heap w7).size = g1 at rA ⊢
    generalize World.alloc w7 (.cells (byteVals p).toArray 28) = v1 at hA rA ⊢
    refine wpAnyH_ready (rs := [21, 23]) (by kernel_rfl) (by simp) ?_
    refine allReady_call 21 42 14 #[.tmp 41] #[37] #[.slice (some ⟨g1, 0, none⟩) 1 1] _ (next_any _ 1 1 [p] _ rA) (by kernel_rfl) (by kernel_rfl) (by kernel_rfl) (by kernel_rfl) (by simp only [List.map_toArray, List.map_cons, List.map_nil]; rfl) ?_ ?_
    · intro w9 hb9
      have hB := RrS.call hA hb9
      refine ⟨hB, ?_⟩
      clear hb9 hA
      (try simp only [Act.put, List.setIfInBounds_toArray, List.set_cons_zero, List.set_cons_succ])
      refine wpAnyH_ready (rs := [23]) (by kernel_rfl) (by simp) ?_
      have hbb := (Below.refl (World.heap w9).size w9).alloc (Nat.le_refl _) (.cells (byteVals p).toArray 28)
      have hC := RrS.call hB hbb
      refine allReady_build HPL.out 23 44 (.tmp 43) (by kernel_rfl) (by kernel_rfl) (by kernel_rfl) (by rfl) hC ?_ AllReadyH.nil
      have rC := row_one w9 p HPL.out 28
      clear hbb hB
      (try simp only [Act.put, List.setIfInBounds_toArray, List.set_cons_zero, List.set_cons_succ])
      generalize (World.heap w9).size = g2 at rC ⊢
      generalize World.alloc w9 (.cells (byteVals p).toArray 28) = v2 at hC rC ⊢
      refine wpAnyH_ready (rs := [24]) (by kernel_rfl) (by simp) ?_
      refine allReady_call 24 45 15 #[.tmp 44] #[37] #[.slice (some ⟨g2, 0, none⟩) 1 1] _ (refNext_any _ 1 1 [p] _ rC) (by kernel_rfl) (by kernel_rfl) (by kernel_rfl) (by kernel_rfl) (by simp only [List.map_toArray, List.map_cons, List.map_nil]; rfl) ?_ AllReadyH.nil
      intro w10 hb10
      have hHeld := RrS.call hC hb10
      refine ⟨hHeld, ?_⟩
      clear hb10 hC
      (try simp only [Act.put, List.setIfInBounds_toArray, List.set_cons_zero, List.set_cons_succ])
      refine take_at (i := 25) (d := some 46) (v := .bool true) rfl rfl (by kernel_rfl) (by kernel_rfl) (by kernel_rfl) (fun _ _ _ h => h) (Or.inl ⟨by kernel_rfl, ?_⟩) hHeld ?_
      · intro w hSw; go_simp
      (try simp only [Act.put, List.setIfInBounds_toArray, List.set_cons_zero, List.set_cons_succ])
      refine take_at (i := 26) (d := some 47) (v := .bool true) rfl rfl (by kernel_rfl) (by kernel_rfl) (by kernel_rfl) (fun _ _ _ h => h) (Or.inl ⟨by kernel_rfl, ?_⟩) hHeld ?_
      · intro w hSw; go_simp
      (try simp only [Act.put, List.setIfInBounds_toArray, List.set_cons_zero, List.set_cons_succ])
      refine take_at (i := 27) (d := some 48) (v := .bool true) rfl rfl (by kernel_rfl) (by kernel_rfl) (by kernel_rfl) (fun _ _ _ h => h) (Or.inl ⟨by kernel_rfl, ?_⟩) hHeld ?_
      · intro w hSw; go_simp
      (try simp only [Act.put, List.setIfInBounds_toArray, List.set_cons_zero, List.set_cons_succ])
      refine take_at (i := 28) (d := some 49) (v := .bool true) rfl rfl (by kernel_rfl) (by kernel_rfl) (by kernel_rfl) (fun _ _ _ h => h) (Or.inl ⟨by kernel_rfl, ?_⟩) hHeld ?_
      · intro w hSw; go_simp
      (try simp only [Act.put, List.setIfInBounds_toArray, List.set_cons_zero, List.set_cons_succ])
      refine take_at (i := 29) (d := some 4) (v := .bool true) rfl rfl (by kernel_rfl) (by kernel_rfl) (by kernel_rfl) (fun _ _ _ h => h) (Or.inl ⟨by kernel_rfl, ?_⟩) hHeld ?_
      · intro w hSw; go_simp
      (try simp only [Act.put, List.setIfInBounds_toArray, List.set_cons_zero, List.set_cons_succ])
      refine wpAnyH_done (by kernel_rfl) ?_ _
      refine NoPanic.normal ?_
      go_wp2_with fail
      go_ret
      exact ⟨rfl, RrS.below hHeld⟩
    · have hbb := (Below.refl (World.heap v1).size v1).alloc (Nat.le_refl _) (.cells (byteVals p).toArray 28)
      have hC := RrS.call hA hbb
      refine allReady_build HPL.out 23 44 (.tmp 43) (by kernel_rfl) (by kernel_rfl) (by kernel_rfl) (by rfl) hC ?_ AllReadyH.nil
      have rC := row_one v1 p HPL.out 28
      have rD := PageRow.step rA hbb
      clear hbb hA rA
      (try simp only [Act.put, List.setIfInBounds_toArray, List.set_cons_zero, List.set_cons_succ])
      generalize (World.heap v1).size = g2 at rC ⊢
      generalize World.alloc v1 (.cells (byteVals p).toArray 28) = v2 at hC rC rD ⊢
      refine wpAnyH_ready (rs := [21]) (by kernel_rfl) (by simp) ?_
      refine allReady_call 21 42 14 #[.tmp 41] #[37] #[.slice (some ⟨g1, 0, none⟩) 1 1] _ (next_any _ 1 1 [p] _ rD) (by kernel_rfl) (by kernel_rfl) (by kernel_rfl) (by kernel_rfl) (by simp only [List.map_toArray, List.map_cons, List.map_nil]; rfl) ?_ AllReadyH.nil
      intro w9 hb9
      have hE := RrS.call hC hb9
      have rE := PageRow.step rC hb9
      refine ⟨hE, ?_⟩
      clear hb9 hC
      (try simp only [Act.put, List.setIfInBounds_toArray, List.set_cons_zero, List.set_cons_succ])
      refine wpAnyH_ready (rs := [24]) (by kernel_rfl) (by simp) ?_
      refine allReady_call 24 45 15 #[.tmp 44] #[37] #[.slice (some ⟨g2, 0, none⟩) 1 1] _ (refNext_any _ 1 1 [p] _ rE) (by kernel_rfl) (by kernel_rfl) (by kernel_rfl) (by kernel_rfl) (by simp only [List.map_toArray, List.map_cons, List.map_nil]; rfl) ?_ AllReadyH.nil
      intro w10 hb10
      have hHeld := RrS.call hE hb10
      refine ⟨hHeld, ?_⟩
      clear hb10 hE
      (try simp only [Act.put, List.setIfInBounds_toArray, List.set_cons_zero, List.set_cons_succ])
      refine take_at (i := 25) (d := some 46) (v := .bool true) rfl rfl (by kernel_rfl) (by kernel_rfl) (by kernel_rfl) (fun _ _ _ h => h) (Or.inl ⟨by kernel_rfl, ?_⟩) hHeld ?_
      · intro w hSw; go_simp
      (try simp only [Act.put, List.setIfInBounds_toArray, List.set_cons_zero, List.set_cons_succ])
      refine take_at (i := 26) (d := some 47) (v := .bool true) rfl rfl (by kernel_rfl) (by kernel_rfl) (by kernel_rfl) (fun _ _ _ h => h) (Or.inl ⟨by kernel_rfl, ?_⟩) hHeld ?_
      · intro w hSw; go_simp
      (try simp only [Act.put, List.setIfInBounds_toArray, List.set_cons_zero, List.set_cons_succ])
      refine take_at (i := 27) (d := some 48) (v := .bool true) rfl rfl (by kernel_rfl) (by kernel_rfl) (by kernel_rfl) (fun _ _ _ h => h) (Or.inl ⟨by kernel_rfl, ?_⟩) hHeld ?_
      · intro w hSw; go_simp
      (try simp only [Act.put, List.setIfInBounds_toArray, List.set_cons_zero, List.set_cons_succ])
      refine take_at (i := 28) (d := some 49) (v := .bool true) rfl rfl (by kernel_rfl) (by kernel_rfl) (by kernel_rfl) (fun _ _ _ h => h) (Or.inl ⟨by kernel_rfl, ?_⟩) hHeld ?_
      · intro w hSw; go_simp
      (try simp only [Act.put, List.setIfInBounds_toArray, List.set_cons_zero, List.set_cons_succ])
      refine take_at (i := 29) (d := some 4) (v := .bool true) rfl rfl (by kernel_rfl) (by kernel_rfl) (by kernel_rfl) (fun _ _ _ h => h) (Or.inl ⟨by kernel_rfl, ?_⟩) hHeld ?_
      · intro w hSw; go_simp
      (try simp only [Act.put, List.setIfInBounds_toArray, List.set_cons_zero, List.set_cons_succ])
      refine wpAnyH_done (by kernel_rfl) ?_ _
      refine NoPanic.normal ?_
      go_wp2_with fail
      go_ret
      exact ⟨rfl, RrS.below hHeld⟩
  · clear hbb hA
    have hbb := (Below.refl (World.heap w7).size w7).alloc (Nat.le_refl _) (.cells (byteVals p).toArray 28)
    have hA := RrS.call hHeld hbb
    refine allReady_build HPL.out 23 44 (.tmp 43) (by kernel_rfl) (by kernel_rfl) (by kernel_rfl) (by rfl) hA ?_ AllReadyH.nil
    have rA := row_one w7 p HPL.out 28
    clear hbb hHeld
    (try simp only [Act.put, List.setIfInBounds_toArray, List.set_cons_zero, List.set_cons_succ])
    generalize (World.heap w7).size = g2 at rA ⊢
    generalize World.alloc w7 (.cells (byteVals p).toArray 28) = v1 at hA rA ⊢
    refine wpAnyH_ready (rs := [20]) (by kernel_rfl) (by simp) ?_
    have hbb := (Below.refl (World.heap v1).size v1).alloc (Nat.le_refl _) (.cells (byteVals p).toArray 28)
    have hC := RrS.call hA hbb
    refine allReady_build HPL.out 20 41 (.tmp 40) (by kernel_rfl) (by kernel_rfl) (by kernel_rfl) (by rfl) hC ?_ AllReadyH.nil
    have rC := row_one v1 p HPL.out 28
    have rD := PageRow.step rA hbb
    clear hbb hA rA
    (try simp only [Act.put, List.setIfInBounds_toArray, List.set_cons_zero, List.set_cons_succ])
    generalize (World.heap v1).size = g1 at rC ⊢
    generalize World.alloc v1 (.cells (byteVals p).toArray 28) = v2 at hC rC rD ⊢
    refine wpAnyH_ready (rs := [21]) (by kernel_rfl) (by simp) ?_
    refine allReady_call 21 42 14 #[.tmp 41] #[37] #[.slice (some ⟨g1, 0, none⟩) 1 1] _ (next_any _ 1 1 [p] _ rC) (by kernel_rfl) (by kernel_rfl) (by kernel_rfl) (by kernel_rfl) (by simp only [List.map_toArray, List.map_cons, List.map_nil]; rfl) ?_ AllReadyH.nil
    intro w9 hb9
    have hE := RrS.call hC hb9
    have rE := PageRow.step rD hb9
    refine ⟨hE, ?_⟩
    clear hb9 hC
    (try simp only [Act.put, List.setIfInBounds_toArray, List.set_cons_zero, List.set_cons_succ])
    refine wpAnyH_ready (rs := [24]) (by kernel_rfl) (by simp) ?_
    refine allReady_call 24 45 15 #[.tmp 44] #[37] #[.slice (some ⟨g2, 0, none⟩) 1 1] _ (refNext_any _ 1 1 [p] _ rE) (by kernel_rfl) (by kernel_rfl) (by kernel_rfl) (by kernel_rfl) (by simp only [List.map_toArray, List.map_cons, List.map_nil]; rfl) ?_ AllReadyH.nil
    intro w10 hb10
    have hHeld := RrS.call hE hb10
    refine ⟨hHeld, ?_⟩
    clear hb10 hE
    (try simp only [Act.put, List.setIfInBounds_toArray, List.set_cons_zero, List.set_cons_succ])
    refine take_at (i := 25) (d := some 46) (v := .bool true) rfl rfl (by kernel_rfl) (by kernel_rfl) (by kernel_rfl) (fun _ _ _ h => h) (Or.inl ⟨by kernel_rfl, ?_⟩) hHeld ?_
    · intro w hSw; go_simp
    (try simp only [Act.put, List.setIfInBounds_toArray, List.set_cons_zero, List.set_cons_succ])
    refine take_at (i := 26) (d := some 47) (v := .bool true) rfl rfl (by kernel_rfl) (by kernel_rfl) (by kernel_rfl) (fun _ _ _ h => h) (Or.inl ⟨by kernel_rfl, ?_⟩) hHeld ?_
    · intro w hSw; go_simp
    (try simp only [Act.put, List.setIfInBounds_toArray, List.set_cons_zero, List.set_cons_succ])
    refine take_at (i := 27) (d := some 48) (v := .bool true) rfl rfl (by kernel_rfl) (by kernel_rfl) (by kernel_rfl) (fun _ _ _ h => h) (Or.inl ⟨by kernel_rfl, ?_⟩) hHeld ?_
    · intro w hSw; go_simp
    (try simp only [Act.put, List.setIfInBounds_toArray, List.set_cons_zero, List.set_cons_succ])
    refine take_at (i := 28) (d := some 49) (v := .bool true) rfl rfl (by kernel_rfl) (by kernel_rfl) (by kernel_rfl) (fun _ _ _ h => h) (Or.inl ⟨by kernel_rfl, ?_⟩) hHeld ?_
    · intro w hSw; go_simp
    (try simp only [Act.put, List.setIfInBounds_toArray, List.set_cons_zero, List.set_cons_succ])
    refine take_at (i := 29) (d := some 4) (v := .bool true) rfl rfl (by kernel_rfl) (by kernel_rfl) (by kernel_rfl) (fun _ _ _ h => h) (Or.inl ⟨by kernel_rfl, ?_⟩) hHeld ?_
    · intro w hSw; go_simp
    (try simp only [Act.put, List.setIfInBounds_toArray, List.set_cons_zero, List.set_cons_succ])
    refine wpAnyH_done (by kernel_rfl) ?_ _
    refine NoPanic.normal ?_
    go_wp2_with fail
    go_ret
    exact ⟨rfl, RrS.below hHeld⟩

theorem walk (p : List UInt8) (A : Option Addr) (n c : Nat) (ps : List (List UInt8)) (w : World) (hp : p.length = 64) (hrow : PageRow w A n ps) :
    Calls Try.prog 4 #[pageV p, .slice A n c] w fun e w' => e = .returned (.bool true) ∧ Below w.heap.size w w' := by
  by_cases hl : 40 < n
  · exact walk_long p A n c ps w hp hrow hl
  · exact walk_short p A n c ps w hp hrow hl

set_option maxRecDepth 100000 in
theorem lifted (os : Os) (started : os.Started) (H : Type) (enc : TypeId × Value → H) :
    ReturnsInHanded {} Try.checked os 4 .any (Rows.headReadsSpec.pre6 enc Try.prog Try.f4 Rows.headReadsRow.domain false) (Rows.headReadsSpec.post enc Try.prog Try.f4 false true false false) := by
  refine returnsInHanded_of_change (C := Try.checked) own started (by kernel_rfl) Try.func4
    (ChangeSpec.witness6 (enc := enc) (C := Try.checked) false ⟨#[], #[.agg zeroCells, .slice none 0 0], []⟩ 8 (by kernel_rfl) (by kernel_rfl) (by kernel_rfl) (by kernel_rfl)) ?_
  intro W base args ds gs before hval0 hW hcnd _
  have hval : ∀ (j : Nat) t v, Try.f4.params[j]? = some t → args[j]? = some v → Value.okWide Try.prog W .any base t v := hval0
  have hW' := hW
  obtain ⟨p, q, hA0, hV, rfl, hfz, hnd⟩ := hW
  have hA : DataW.TrodAll enc Try.prog W 0 (fun _ => true) true Try.f4.params.toList args.toList ds p := hA0
  rw [Try.params4] at hA hval
  obtain ⟨v0, vs0, d0, ds0, p0, q0, hargs, rfl, rfl, h0, r0⟩ := trodAll_cons hA
  obtain ⟨v1, vs1, d1, ds1, p1, q1, rfl, rfl, rfl, h1, r1⟩ := trodAll_cons r0
  obtain ⟨rfl, rfl, rfl⟩ := trodAll_nil r1
  obtain rfl : args = #[v0, v1] := by cases args; simp_all
  obtain ⟨rfl, rfl⟩ := trodVars_none hV
  have k0 := h0
  have lt0 : ∀ x ∈ p0, x.block < W.heap.size := by obtain ⟨m, hm⟩ := k0; exact DataW.trod_lt m _ _ _ hm
  have k1 := h1
  have lt1 : ∀ x ∈ p1, x.block < W.heap.size := by obtain ⟨m, hm⟩ := k1; exact DataW.trod_lt m _ _ _ hm
  obtain ⟨x0, hx0, rfl⟩ := open_page (hval 0 28 v0 rfl rfl) h0
  obtain ⟨A1, m1, c1, ps1, rfl, w1⟩ := open_pages (hval 1 37 v1 rfl rfl) h1
  clear hA0 hval0
  refine (walk x0 A1 m1 c1 ps1 W hx0 w1).mono fun e W' ⟨he, bel⟩ => ?_
  subst he
  exact ⟨_, rfl, _, _, _, [], _, [], hW', trodAll_mk1 (shut_bool Try.underlying4 _), (trodAll_cons_mk (Below.trod laidOut (by kernel_rfl) (of_decide_eq_true (by kernel_rfl)) k0 bel lt0) (trodAll_cons_mk (Below.trod laidOut (by kernel_rfl) (of_decide_eq_true (by kernel_rfl)) k1 bel lt1) trodAll_mk0)), rfl, bel.frame _, fun h => by cases h⟩

theorem over : Rows.headReadsRow.holds Try.pinned (OpenSpec.ofChange Rows.headReadsSpec) :=
  OpenClaim.holds_of_wide 4 Try.f4 rfl rfl rfl rfl rfl rfl rfl ⟨rfl, rfl, rfl, rfl, rfl⟩ rfl rfl rfl rfl rfl (by kernel_rfl) Try.func4 (by kernel_rfl)
    (of_decide_eq_true (by kernel_rfl)) (by unfold Func.isWrapper; first | (rw [if_pos (by decide +kernel)]; kernel_rfl) | (rw [if_neg (by decide +kernel)]; exact ⟨rfl, rfl⟩))
    (fun os started H enc _ => lifted os started H enc)

/-- THE STATEMENT -/
theorem proved : Rows.HeadReadsSaid := over
#print axioms proved
end Go.Proofs.Ytlbadfeobpnlcaa.headReads
