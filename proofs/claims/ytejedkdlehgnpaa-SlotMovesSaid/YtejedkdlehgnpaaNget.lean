/-
  The contract of slot.Get.
-/
import Derived.Test.YtejedkdlehgnpaaNput
namespace Go.Proofs.Ytejedkdlehgnpaa
open Go.RowKit

theorem entL_len (n : Int) (s : ByteArray) : (entL n s).length = 2 := rfl
/-- what stands in memory at Get: the page, the entry that is handed back -/
structure BxS (w0 : World) (p : List UInt8) (W : World) : Prop where
  page : PageAt W w0.heap.size p
  out : RowAt W (w0.heap.size + 1) (entL 0 ⟨#[]⟩)
  below : Below w0.heap.size w0 W
theorem BxS.call {w0 : World} {p : List UInt8} {W W' : World} (k : BxS w0 p W) (hb : Below W.heap.size W W') : BxS w0 p W' :=
  ⟨k.page.step hb, RowAt.step k.out hb, k.below.trans (hb.mono k.below.size)⟩
theorem BxS.drew {w0 : World} {p : List UInt8} {W : World} (k : BxS w0 p W) : BxS w0 p W.drew := ⟨k.page.drew, k.out.drew, k.below.drew⟩
theorem bxS_box (w : World) (p : List UInt8) (t : TypeId) (hp : p.length = 64) : BxS w p ((w.alloc (.cells (byteVals p).toArray 32)).alloc (.cells (entL 0 ⟨#[]⟩).toArray t)) where
  page := (pageAt_new w p _ hp).alloc _
  out := by
    have h := rowAt_new (w.alloc (.cells (byteVals p).toArray 32)) (entL 0 ⟨#[]⟩) t
    rw [World.size_alloc] at h
    exact h
  below := ((Below.refl _ _).alloc (Nat.le_refl _) _).alloc (by simp) _
theorem BxS.back {w0 : World} {p : List UInt8} {W : World} (k : BxS w0 p W) (n : Int) (s : ByteArray) : RowAt (W.setCells (w0.heap.size + 1) 0 (entL n s)) (w0.heap.size + 1) (entL n s) ∧ Below w0.heap.size w0 (W.setCells (w0.heap.size + 1) 0 (entL n s)) :=
  ⟨k.out.put (entL n s) rfl, below_setCells _ (by omega) _ _ _ k.below⟩
/-- the same, and the entry that is made, empty or laid in -/
def GtS (w0 : World) (p : List UInt8) (n : Int) (s : ByteArray) (o : Option (Nat × Bool)) (W : World) : Prop :=
  BxS w0 p W ∧ match o with
    | none => True
    | some (g, b) => w0.heap.size + 1 < g ∧ RowAt W g (if b = true then entL n s else entL 0 ⟨#[]⟩)
theorem GtS.call {w0 : World} {p : List UInt8} {n : Int} {s : ByteArray} {o : Option (Nat × Bool)} {W W' : World} (k : GtS w0 p n s o W) (hb : Below W.heap.size W W') : GtS w0 p n s o W' := by
  refine ⟨BxS.call k.1 hb, ?_⟩
  match o, k with
  | none, _ => trivial
  | some (g, true), k => exact ⟨k.2.1, RowAt.step (v := .int .i64 n) (vs := [.string s]) k.2.2 hb⟩
  | some (g, false), k => exact ⟨k.2.1, RowAt.step (v := .int .i64 0) (vs := [.string ⟨#[]⟩]) k.2.2 hb⟩
theorem GtS.drew {w0 : World} {p : List UInt8} {n : Int} {s : ByteArray} {g : Nat} {b : Bool} {W : World} (k : GtS w0 p n s (some (g, b)) W) : GtS w0 p n s (some (g, b)) W.drew := ⟨BxS.drew k.1, k.2.1, k.2.2.drew⟩
theorem GtS.alloc {w0 : World} {p : List UInt8} {n : Int} {s : ByteArray} {W : World} {t : TypeId} (k : BxS w0 p W) : GtS w0 p n s (some (W.heap.size, false)) (W.alloc (.cells (entL 0 ⟨#[]⟩).toArray t)) :=
  ⟨⟨k.page.alloc _, k.out.alloc _, k.below.alloc k.below.size _⟩, k.out.lt, rowAt_new W (entL 0 ⟨#[]⟩) t⟩
theorem GtS.put {w0 : World} {p : List UInt8} {n : Int} {s : ByteArray} {g : Nat} {b : Bool} {W : World} (k : GtS w0 p n s (some (g, b)) W) : GtS w0 p n s (some (g, true)) (W.setCells g 0 (entL n s)) := by
  obtain ⟨k1, k2, k3⟩ := k
  exact ⟨⟨k1.page.put_other _ _ _ (by omega), k1.out.put_other _ _ _ (by omega), below_setCells _ (by omega) _ _ _ k1.below⟩, k2, k3.put (entL n s) (by cases b <;> rfl)⟩

set_option maxRecDepth 100000 in
set_option maxHeartbeats 4000000 in
theorem get_bad (p : List UInt8) (i : Int) (A : Nat) (L m : Int) (t : ByteArray) (w : World) (hp : p.length = 64) (h0 : 0 ≤ i) (h4 : i < 4) (hA : i * 16 = (A : Int))
    (C1 : Hid (∀ w, Calls Try.prog 24 #[pageV p, .int .i64 ((A : Int) + 2), .int .i64 1] w fun e w' => e = .returned (.int .i64 L) ∧ Below w.heap.size w w'))
    (C2 : Hid (∀ w, Calls Try.prog 24 #[pageV p, .int .i64 (A : Int), .int .i64 2] w fun e w' => e = .returned (.int .i64 m) ∧ Below w.heap.size w w'))
    (C3 : Hid (∀ w, Calls Try.prog 25 #[pageV p, .int .i64 ((A : Int) + 3), .int .i64 L] w fun e w' => e = .returned (.string t) ∧ Below w.heap.size w w'))
    (HM : Hid (∀ w, Calls Try.prog 21 #[entV m t] w fun e w' => e = .returned (.bool false) ∧ Below w.heap.size w w'))
    : Calls Try.prog 14 #[pageV p, .int .i64 i] w fun e w' => e = .returned (.tuple #[entV 0 ⟨#[]⟩, .int .i64 5]) ∧ Below w.heap.size w w' := by
  have HS := Lib.hid (bxS_box w p 23 hp)
  have HT := Lib.hid (fun w => isThere_any i w)
  rw [show thereB i = true from decide_eq_true ⟨h0, h4⟩] at HT
  have hA64 : A + 16 ≤ 64 := by omega
  have HW3 : Hid (IntKind.i64.wrap ((A : Int) + 3) = (A : Int) + 3) := Lib.hid (IntWalk.i64_in _ (by omega))
  clear hp
  unfold pageV
  go_enter Try.func14, Try.ntmps14
  go_wp2_with fail
  refine (HT.out _).mono ?_
  rintro e w1 ⟨rfl, hw⟩
  have S : Hid (BxS w p w1) := Lib.hid (by rw [← hw]; exact HS.out)
  clear hw HS
  go_wp2_with (first
    | (with_reducible refine wpList_load_page S.out.page rfl (.tmp 2) rfl rfl ?_)
    | (go_at_call 24; (with_reducible refine (C1.out _).mono ?_); rintro e w' ⟨rfl, hb⟩; clear C1; replace S := Lib.hid (S.out.call hb); clear hb))
  refine wp_region_lin (GtS w p m t) (fun i => i == 9 || i == 10) (fun i => [pageV p, .int .i64 (A : Int), .int .i64 m, pageV p, .int .i64 (A : Int), .int .i64 ((A : Int) + 3), .int .i64 L, .string t, entV m t].getD i undef) (none) (by kernel_rfl) (by kernel_rfl) (⟨BxS.drew S.out, trivial⟩) ?_
  refine lin_step (i := 0) (d := some 19) (v := pageV p) rfl rfl (by kernel_rfl) (by kernel_rfl) rfl rfl (ord_page (by kernel_rfl) (.tmp 2) rfl rfl (fun _ _ hS => hS.1.page)) ?_
  (try simp only [Act.put, List.setIfInBounds_toArray, List.set_cons_zero, List.set_cons_succ])
  refine lin_step (i := 1) (d := some 20) (v := .int .i64 (A : Int)) rfl rfl (by kernel_rfl) (by kernel_rfl) rfl rfl (ord_value (by kernel_rfl) ?_) ?_
  · intro _ _ _; go_simp
  (try simp only [Act.put, List.setIfInBounds_toArray, List.set_cons_zero, List.set_cons_succ])
  refine lin_step (i := 2) (d := some 21) (v := .int .i64 m) rfl rfl (by kernel_rfl) (by kernel_rfl) rfl rfl (ord_call (f := 24) (args := #[pageV p, .int .i64 (A : Int), .int .i64 2]) (by kernel_rfl) ?_ (fun _ W hS => (C2.out W).mono fun _ _ h => ⟨h.1, GtS.call hS h.2⟩)) ?_
  · intro _; go_simp
  (try simp only [Act.put, List.setIfInBounds_toArray, List.set_cons_zero, List.set_cons_succ])
  refine lin_step (i := 3) (d := some 22) (v := pageV p) rfl rfl (by kernel_rfl) (by kernel_rfl) rfl rfl (ord_page (by kernel_rfl) (.tmp 2) rfl rfl (fun _ _ hS => hS.1.page)) ?_
  (try simp only [Act.put, List.setIfInBounds_toArray, List.set_cons_zero, List.set_cons_succ])
  refine lin_step (i := 4) (d := some 23) (v := .int .i64 (A : Int)) rfl rfl (by kernel_rfl) (by kernel_rfl) rfl rfl (ord_value (by kernel_rfl) ?_) ?_
  · intro _ _ _; go_simp
  (try simp only [Act.put, List.setIfInBounds_toArray, List.set_cons_zero, List.set_cons_succ])
  refine lin_step (i := 5) (d := some 24) (v := .int .i64 ((A : Int) + 3)) rfl rfl (by kernel_rfl) (by kernel_rfl) rfl rfl (ord_value (by kernel_rfl) ?_) ?_
  · intro _ _ _; go_simp; rw [HW3.out]
  (try simp only [Act.put, List.setIfInBounds_toArray, List.set_cons_zero, List.set_cons_succ])
  refine lin_step (i := 6) (d := some 25) (v := .int .i64 L) rfl rfl (by kernel_rfl) (by kernel_rfl) rfl rfl (ord_value (by kernel_rfl) ?_) ?_
  · intro _ _ _; go_simp
  (try simp only [Act.put, List.setIfInBounds_toArray, List.set_cons_zero, List.set_cons_succ])
  refine lin_step (i := 7) (d := some 26) (v := .string t) rfl rfl (by kernel_rfl) (by kernel_rfl) rfl rfl (ord_call (f := 25) (args := #[pageV p, .int .i64 ((A : Int) + 3), .int .i64 L]) (by kernel_rfl) ?_ (fun _ W hS => (C3.out W).mono fun _ _ h => ⟨h.1, GtS.call hS h.2⟩)) ?_
  · intro _; go_simp
  (try simp only [Act.put, List.setIfInBounds_toArray, List.set_cons_zero, List.set_cons_succ])
  refine lin_step (i := 8) (d := some 27) (v := entV m t) rfl rfl (by kernel_rfl) (by kernel_rfl) rfl rfl (ord_value (by kernel_rfl) ?_) ?_
  · (intro _ _ _; unfold entV; go_simp) <;> rfl
  (try simp only [Act.put, List.setIfInBounds_toArray, List.set_cons_zero, List.set_cons_succ])
  refine lin_turn (i := 9) (d := some 8) (fun u s => ∃ g, w.heap.size + 1 < g ∧ u = .pointer (some ⟨g, 0, none⟩) ∧ s = some (g, false)) rfl rfl (by kernel_rfl) (by kernel_rfl) rfl (by kernel_rfl) (⟨_, _, w.heap.size + 2, by omega, rfl, rfl⟩) (by kernel_rfl) (fun W hS => gives_to (v := .pointer (some ⟨W.heap.size, 0, none⟩)) (w' := W.alloc (.cells (entL 0 ⟨#[]⟩).toArray 23)) (by go_simp; rfl) ⟨some (W.heap.size, false), ⟨W.heap.size, hS.1.out.lt, rfl, rfl⟩, GtS.alloc hS.1⟩) ?_
  rintro _ _ ⟨g, hg, rfl, rfl⟩
  (try simp only [Act.put, List.setIfInBounds_toArray, List.set_cons_zero, List.set_cons_succ])
  refine lin_turn (i := 10) (d := none) (fun u s => u = undef ∧ s = some (g, true)) rfl rfl (by kernel_rfl) (by kernel_rfl) rfl (by kernel_rfl) (⟨_, _, rfl, rfl⟩) (by kernel_rfl) (fun W hS => gives_store_row entT hS.2.2 rfl rfl (entL_one m t) (.tmp 8) (.tmp 27) rfl rfl rfl ⟨some (g, true), ⟨rfl, rfl⟩, GtS.put hS⟩) ?_
  rintro _ _ ⟨rfl, rfl⟩
  (try simp only [Act.put, List.setIfInBounds_toArray, List.set_cons_zero, List.set_cons_succ])
  refine lin_done (by kernel_rfl) ?_
  intro W2 hS
  have S2 : Hid (GtS w p m t (some (g, true)) W2) := Lib.hid hS
  clear hS S hg
  go_wp2_with fail
  refine wp_region_class (C := GtS w p m t (some (g, true))) (by kernel_rfl) (GtS.drew S2.out) ?_
  refine wpQuiet_row entT rfl (.tmp 8) rfl rfl (by kernel_rfl) (fun _ hC => hC.2.2) ?_
  (try simp only [Act.put, List.setIfInBounds_toArray, List.set_cons_zero, List.set_cons_succ])
  refine wpQuiet_call 21 #[entV m t] (.bool false) (by kernel_rfl) (fun _ => by go_simp; rfl) (fun W hC => (HM.out W).mono fun _ _ h => ⟨h.1, GtS.call hC h.2⟩) ?_
  (try simp only [Act.put, List.setIfInBounds_toArray, List.set_cons_zero, List.set_cons_succ])
  refine wpQuiet_take (.bool true) (by kernel_rfl) ?_ ?_
  · (intro _ _; go_simp)
  (try simp only [Act.put, List.setIfInBounds_toArray, List.set_cons_zero, List.set_cons_succ])
  refine wpQuiet_take (.bool true) (by kernel_rfl) ?_ ?_
  · (intro _ _; go_simp)
  (try simp only [Act.put, List.setIfInBounds_toArray, List.set_cons_zero, List.set_cons_succ])
  refine BigFrame.wpQuiet_skip (by kernel_rfl) ?_
  (try simp only [Act.put, List.setIfInBounds_toArray, List.set_cons_zero, List.set_cons_succ])
  refine BigFrame.wpQuiet_skip (by kernel_rfl) ?_
  (try simp only [Act.put, List.setIfInBounds_toArray, List.set_cons_zero, List.set_cons_succ])
  refine BigFrame.wpQuiet_skip (by kernel_rfl) ?_
  (try simp only [Act.put, List.setIfInBounds_toArray, List.set_cons_zero, List.set_cons_succ])
  refine BigFrame.wpQuiet_skip (by kernel_rfl) ?_
  (try simp only [Act.put, List.setIfInBounds_toArray, List.set_cons_zero, List.set_cons_succ])
  refine BigFrame.wpQuiet_skip (by kernel_rfl) ?_
  (try simp only [Act.put, List.setIfInBounds_toArray, List.set_cons_zero, List.set_cons_succ])
  refine BigFrame.wpQuiet_skip (by kernel_rfl) ?_
  (try simp only [Act.put, List.setIfInBounds_toArray, List.set_cons_zero, List.set_cons_succ])
  refine wpQuiet_take (.bool true) (by kernel_rfl) ?_ ?_
  · (intro _ _; go_simp)
  (try simp only [Act.put, List.setIfInBounds_toArray, List.set_cons_zero, List.set_cons_succ])
  refine wpQuiet_nil ?_
  intro W3 hC
  have S3 := Lib.hid hC
  clear hC S2
  have R3 : Hid (RowAt W3 g (entL m t)) := Lib.hid S3.out.2.2
  have B3 : Hid (BxS w p W3) := Lib.hid S3.out.1
  go_wp2_with (first
    | ((with_reducible refine wpList_store_row entT (vs := entL 0 ⟨#[]⟩) B3.out.out (entL_len _ _) (entL_len _ _) (entL_one _ _) rfl (.tmp 4) (.tmp 39) rfl rfl ?_ ?_); (exact rfl))
    | (with_reducible refine wpList_load_row entT R3.out (entL_len _ _) rfl (.tmp 8) rfl rfl ?_))
  exact bodyPost_ret (results_row2 entT _ 4 5 rfl _ (B3.out.back _ _).1 rfl rfl rfl) rfl ⟨rfl, (B3.out.back _ _).2⟩
set_option maxRecDepth 100000 in
set_option maxHeartbeats 4000000 in
theorem get_other (p : List UInt8) (i : Int) (A : Nat) (L m : Int) (t : ByteArray) (q : List UInt8) (b : Bool) (w : World) (hp : p.length = 64) (h0 : 0 ≤ i) (h4 : i < 4) (hA : i * 16 = (A : Int))
    (C1 : Hid (∀ w, Calls Try.prog 24 #[pageV p, .int .i64 ((A : Int) + 2), .int .i64 1] w fun e w' => e = .returned (.int .i64 L) ∧ Below w.heap.size w w'))
    (C2 : Hid (∀ w, Calls Try.prog 24 #[pageV p, .int .i64 (A : Int), .int .i64 2] w fun e w' => e = .returned (.int .i64 m) ∧ Below w.heap.size w w'))
    (C3 : Hid (∀ w, Calls Try.prog 25 #[pageV p, .int .i64 ((A : Int) + 3), .int .i64 L] w fun e w' => e = .returned (.string t) ∧ Below w.heap.size w w'))
    (HM : Hid (∀ w, Calls Try.prog 21 #[entV m t] w fun e w' => e = .returned (.bool true) ∧ Below w.heap.size w w'))
    (C4 : Hid (∀ w, Calls Try.prog 13 #[pageV p, .int .i64 i, entV m t] w fun e w' => e = .returned (pageV q) ∧ Below w.heap.size w w'))
    (hq : q.length = 64) (hbq : (!decide (q = p)) = b)
    : Calls Try.prog 14 #[pageV p, .int .i64 i] w fun e w' => e = .returned (.tuple #[if b = true then entV 0 ⟨#[]⟩ else entV m t, .int .i64 (if b = true then 5 else 0)]) ∧ Below w.heap.size w w' := by
  have HN : Hid (∀ w, (binOp .neq 32 (pageV q) (pageV p)).run Try.prog w = .ok (.bool b) w) := Lib.hid (fun w => by rw [run_neq_page w q p hq hp, hbq])
  clear hq
  clear hbq
  have HS := Lib.hid (bxS_box w p 23 hp)
  have HT := Lib.hid (fun w => isThere_any i w)
  rw [show thereB i = true from decide_eq_true ⟨h0, h4⟩] at HT
  have hA64 : A + 16 ≤ 64 := by omega
  have HW3 : Hid (IntKind.i64.wrap ((A : Int) + 3) = (A : Int) + 3) := Lib.hid (IntWalk.i64_in _ (by omega))
  clear hp
  unfold pageV
  go_enter Try.func14, Try.ntmps14
  go_wp2_with fail
  refine (HT.out _).mono ?_
  rintro e w1 ⟨rfl, hw⟩
  have S : Hid (BxS w p w1) := Lib.hid (by rw [← hw]; exact HS.out)
  clear hw HS
  go_wp2_with (first
    | (with_reducible refine wpList_load_page S.out.page rfl (.tmp 2) rfl rfl ?_)
    | (go_at_call 24; (with_reducible refine (C1.out _).mono ?_); rintro e w' ⟨rfl, hb⟩; clear C1; replace S := Lib.hid (S.out.call hb); clear hb))
  refine wp_region_lin (GtS w p m t) (fun i => i == 9 || i == 10) (fun i => [pageV p, .int .i64 (A : Int), .int .i64 m, pageV p, .int .i64 (A : Int), .int .i64 ((A : Int) + 3), .int .i64 L, .string t, entV m t].getD i undef) (none) (by kernel_rfl) (by kernel_rfl) (⟨BxS.drew S.out, trivial⟩) ?_
  refine lin_step (i := 0) (d := some 19) (v := pageV p) rfl rfl (by kernel_rfl) (by kernel_rfl) rfl rfl (ord_page (by kernel_rfl) (.tmp 2) rfl rfl (fun _ _ hS => hS.1.page)) ?_
  (try simp only [Act.put, List.setIfInBounds_toArray, List.set_cons_zero, List.set_cons_succ])
  refine lin_step (i := 1) (d := some 20) (v := .int .i64 (A : Int)) rfl rfl (by kernel_rfl) (by kernel_rfl) rfl rfl (ord_value (by kernel_rfl) ?_) ?_
  · intro _ _ _; go_simp
  (try simp only [Act.put, List.setIfInBounds_toArray, List.set_cons_zero, List.set_cons_succ])
  refine lin_step (i := 2) (d := some 21) (v := .int .i64 m) rfl rfl (by kernel_rfl) (by kernel_rfl) rfl rfl (ord_call (f := 24) (args := #[pageV p, .int .i64 (A : Int), .int .i64 2]) (by kernel_rfl) ?_ (fun _ W hS => (C2.out W).mono fun _ _ h => ⟨h.1, GtS.call hS h.2⟩)) ?_
  · intro _; go_simp
  (try simp only [Act.put, List.setIfInBounds_toArray, List.set_cons_zero, List.set_cons_succ])
  refine lin_step (i := 3) (d := some 22) (v := pageV p) rfl rfl (by kernel_rfl) (by kernel_rfl) rfl rfl (ord_page (by kernel_rfl) (.tmp 2) rfl rfl (fun _ _ hS => hS.1.page)) ?_
  (try simp only [Act.put, List.setIfInBounds_toArray, List.set_cons_zero, List.set_cons_succ])
  refine lin_step (i := 4) (d := some 23) (v := .int .i64 (A : Int)) rfl rfl (by kernel_rfl) (by kernel_rfl) rfl rfl (ord_value (by kernel_rfl) ?_) ?_
  · intro _ _ _; go_simp
  (try simp only [Act.put, List.setIfInBounds_toArray, List.set_cons_zero, List.set_cons_succ])
  refine lin_step (i := 5) (d := some 24) (v := .int .i64 ((A : Int) + 3)) rfl rfl (by kernel_rfl) (by kernel_rfl) rfl rfl (ord_value (by kernel_rfl) ?_) ?_
  · intro _ _ _; go_simp; rw [HW3.out]
  (try simp only [Act.put, List.setIfInBounds_toArray, List.set_cons_zero, List.set_cons_succ])
  refine lin_step (i := 6) (d := some 25) (v := .int .i64 L) rfl rfl (by kernel_rfl) (by kernel_rfl) rfl rfl (ord_value (by kernel_rfl) ?_) ?_
  · intro _ _ _; go_simp
  (try simp only [Act.put, List.setIfInBounds_toArray, List.set_cons_zero, List.set_cons_succ])
  refine lin_step (i := 7) (d := some 26) (v := .string t) rfl rfl (by kernel_rfl) (by kernel_rfl) rfl rfl (ord_call (f := 25) (args := #[pageV p, .int .i64 ((A : Int) + 3), .int .i64 L]) (by kernel_rfl) ?_ (fun _ W hS => (C3.out W).mono fun _ _ h => ⟨h.1, GtS.call hS h.2⟩)) ?_
  · intro _; go_simp
  (try simp only [Act.put, List.setIfInBounds_toArray, List.set_cons_zero, List.set_cons_succ])
  refine lin_step (i := 8) (d := some 27) (v := entV m t) rfl rfl (by kernel_rfl) (by kernel_rfl) rfl rfl (ord_value (by kernel_rfl) ?_) ?_
  · (intro _ _ _; unfold entV; go_simp) <;> rfl
  (try simp only [Act.put, List.setIfInBounds_toArray, List.set_cons_zero, List.set_cons_succ])
  refine lin_turn (i := 9) (d := some 8) (fun u s => ∃ g, w.heap.size + 1 < g ∧ u = .pointer (some ⟨g, 0, none⟩) ∧ s = some (g, false)) rfl rfl (by kernel_rfl) (by kernel_rfl) rfl (by kernel_rfl) (⟨_, _, w.heap.size + 2, by omega, rfl, rfl⟩) (by kernel_rfl) (fun W hS => gives_to (v := .pointer (some ⟨W.heap.size, 0, none⟩)) (w' := W.alloc (.cells (entL 0 ⟨#[]⟩).toArray 23)) (by go_simp; rfl) ⟨some (W.heap.size, false), ⟨W.heap.size, hS.1.out.lt, rfl, rfl⟩, GtS.alloc hS.1⟩) ?_
  rintro _ _ ⟨g, hg, rfl, rfl⟩
  (try simp only [Act.put, List.setIfInBounds_toArray, List.set_cons_zero, List.set_cons_succ])
  refine lin_turn (i := 10) (d := none) (fun u s => u = undef ∧ s = some (g, true)) rfl rfl (by kernel_rfl) (by kernel_rfl) rfl (by kernel_rfl) (⟨_, _, rfl, rfl⟩) (by kernel_rfl) (fun W hS => gives_store_row entT hS.2.2 rfl rfl (entL_one m t) (.tmp 8) (.tmp 27) rfl rfl rfl ⟨some (g, true), ⟨rfl, rfl⟩, GtS.put hS⟩) ?_
  rintro _ _ ⟨rfl, rfl⟩
  (try simp only [Act.put, List.setIfInBounds_toArray, List.set_cons_zero, List.set_cons_succ])
  refine lin_done (by kernel_rfl) ?_
  intro W2 hS
  have S2 : Hid (GtS w p m t (some (g, true)) W2) := Lib.hid hS
  clear hS S hg
  go_wp2_with fail
  refine wp_region_class (C := GtS w p m t (some (g, true))) (by kernel_rfl) (GtS.drew S2.out) ?_
  refine wpQuiet_row entT rfl (.tmp 8) rfl rfl (by kernel_rfl) (fun _ hC => hC.2.2) ?_
  (try simp only [Act.put, List.setIfInBounds_toArray, List.set_cons_zero, List.set_cons_succ])
  refine wpQuiet_call 21 #[entV m t] (.bool true) (by kernel_rfl) (fun _ => by go_simp; rfl) (fun W hC => (HM.out W).mono fun _ _ h => ⟨h.1, GtS.call hC h.2⟩) ?_
  (try simp only [Act.put, List.setIfInBounds_toArray, List.set_cons_zero, List.set_cons_succ])
  refine wpQuiet_take (.bool false) (by kernel_rfl) ?_ ?_
  · (intro _ _; go_simp)
  (try simp only [Act.put, List.setIfInBounds_toArray, List.set_cons_zero, List.set_cons_succ])
  refine wpQuiet_take (.bool false) (by kernel_rfl) ?_ ?_
  · (intro _ _; go_simp)
  (try simp only [Act.put, List.setIfInBounds_toArray, List.set_cons_zero, List.set_cons_succ])
  refine wpQuiet_page (.tmp 2) rfl rfl (by kernel_rfl) (fun _ hC => hC.1.page) ?_
  (try simp only [Act.put, List.setIfInBounds_toArray, List.set_cons_zero, List.set_cons_succ])
  refine wpQuiet_take (.int .i64 i) (by kernel_rfl) ?_ ?_
  · (intro _ _; go_simp)
  (try simp only [Act.put, List.setIfInBounds_toArray, List.set_cons_zero, List.set_cons_succ])
  refine wpQuiet_row entT rfl (.tmp 8) rfl rfl (by kernel_rfl) (fun _ hC => hC.2.2) ?_
  (try simp only [Act.put, List.setIfInBounds_toArray, List.set_cons_zero, List.set_cons_succ])
  refine wpQuiet_call 13 #[pageV p, .int .i64 i, entV m t] (pageV q) (by kernel_rfl) (fun _ => by go_simp; rfl) (fun W hC => (C4.out W).mono fun _ _ h => ⟨h.1, GtS.call hC h.2⟩) ?_
  (try simp only [Act.put, List.setIfInBounds_toArray, List.set_cons_zero, List.set_cons_succ])
  refine wpQuiet_page (.tmp 2) rfl rfl (by kernel_rfl) (fun _ hC => hC.1.page) ?_
  (try simp only [Act.put, List.setIfInBounds_toArray, List.set_cons_zero, List.set_cons_succ])
  refine wpQuiet_take (.bool b) (by kernel_rfl) ?_ ?_
  · (intro w _; have hn := HN.out w; have hgd := fun x y => run_neGuard_page w x y q p; go_simp)
  (try simp only [Act.put, List.setIfInBounds_toArray, List.set_cons_zero, List.set_cons_succ])
  refine wpQuiet_take (.bool b) (by kernel_rfl) ?_ ?_
  · (intro _ _; cases b <;> go_simp)
  (try simp only [Act.put, List.setIfInBounds_toArray, List.set_cons_zero, List.set_cons_succ])
  refine wpQuiet_nil ?_
  intro W3 hC
  have S3 := Lib.hid hC
  clear hC S2
  cases b with
  | true =>
    have R3 : Hid (RowAt W3 g (entL m t)) := Lib.hid S3.out.2.2
    have B3 : Hid (BxS w p W3) := Lib.hid S3.out.1
    go_wp2_with (first
      | ((with_reducible refine wpList_store_row entT (vs := entL 0 ⟨#[]⟩) B3.out.out (entL_len _ _) (entL_len _ _) (entL_one _ _) rfl (.tmp 4) (.tmp 39) rfl rfl ?_ ?_); (exact rfl))
      | (with_reducible refine wpList_load_row entT R3.out (entL_len _ _) rfl (.tmp 8) rfl rfl ?_))
    exact bodyPost_ret (results_row2 entT _ 4 5 rfl _ (B3.out.back _ _).1 rfl rfl rfl) rfl ⟨rfl, (B3.out.back _ _).2⟩
  | false =>
    have R3 : Hid (RowAt W3 g (entL m t)) := Lib.hid S3.out.2.2
    have B3 : Hid (BxS w p W3) := Lib.hid S3.out.1
    go_wp2_with (first
      | ((with_reducible refine wpList_store_row entT (vs := entL m t) B3.out.out (entL_len _ _) (entL_len _ _) (entL_one _ _) rfl (.tmp 4) (.tmp 40) rfl rfl ?_ ?_); (exact rfl))
      | (with_reducible refine wpList_load_row entT R3.out (entL_len _ _) rfl (.tmp 8) rfl rfl ?_))
    exact bodyPost_ret (results_row2 entT _ 4 5 rfl _ (B3.out.back _ _).1 rfl rfl rfl) rfl ⟨rfl, (B3.out.back _ _).2⟩
end Go.Proofs.Ytejedkdlehgnpaa
