/-
  The contract of plan.Read.
-/
import Derived.Test.YteajegplbmadiaaLsup
import Derived.Test.YteajegplbmadiaaPopen
namespace Go.Proofs.Yteajegplbmadiaa
open Go.RowKit

/-- what stands in memory: the page, the plan that is handed back; and the plan that is read, once it is made -/
structure RdS (w0 : World) (x : List UInt8) (W : World) : Prop where
  page : PageAt W w0.heap.size x
  res : RowAt W (w0.heap.size + 1) (planL 0 0)
  below : Below w0.heap.size w0 W
theorem RdS.call {w0 : World} {x : List UInt8} {W W' : World} (k : RdS w0 x W) (hb : Below W.heap.size W W') : RdS w0 x W' :=
  ⟨k.page.step hb, k.res.step hb, k.below.trans (hb.mono k.below.size)⟩
theorem RdS.drew {w0 : World} {x : List UInt8} {W : World} (k : RdS w0 x W) : RdS w0 x W.drew := ⟨k.page.drew, k.res.drew, k.below.drew⟩
def RfS (w0 : World) (x : List UInt8) (p i : Int) : Option (Nat × Bool) → World → Prop
  | none, W => RdS w0 x W
  | some (g, b), W => RdS w0 x W ∧ w0.heap.size + 1 < g ∧ RowAt W g (if b then planL p i else planL 0 0)
theorem RfS.base {w0 : World} {x : List UInt8} {p i : Int} {s : Option (Nat × Bool)} {W : World} (k : RfS w0 x p i s W) : RdS w0 x W := by
  cases s with
  | none => exact k
  | some gb => exact k.1
theorem RfS.call {w0 : World} {x : List UInt8} {p i : Int} {s : Option (Nat × Bool)} {W W' : World} (k : RfS w0 x p i s W) (hb : Below W.heap.size W W') : RfS w0 x p i s W' := by
  cases s with
  | none => exact RdS.call k hb
  | some gb =>
    obtain ⟨g, b⟩ := gb
    obtain ⟨h1, h2, h3⟩ := k
    refine ⟨h1.call hb, h2, ?_⟩
    cases b <;> exact RowAt.step h3 hb
theorem read_box (w : World) (x : List UInt8) (hx : x.length = 64) : RdS w x ((w.alloc (.cells (byteVals x).toArray 33)).alloc (.cells #[.int .i64 0, .int .i64 0] 24)) := by
  have h0 := (pageAt_new w x 33 hx).alloc (.cells #[.int .i64 0, .int .i64 0] 24)
  have h1 := rowAt_new (w.alloc (.cells (byteVals x).toArray 33)) (planL 0 0) 24
  rw [World.size_alloc] at h1
  exact ⟨h0, h1, ((Below.refl _ _).alloc (Nat.le_refl _) _).alloc (by simp) _⟩
theorem RdS.alloc {w0 : World} {x : List UInt8} {p i : Int} {W : World} (k : RdS w0 x W) : RfS w0 x p i (some (W.heap.size, false)) (W.alloc (.cells #[.int .i64 0, .int .i64 0] 24)) :=
  ⟨⟨k.page.alloc _, k.res.alloc _, k.below.alloc k.below.size _⟩, RowAt.lt k.res, rowAt_new W (planL 0 0) _⟩
theorem RfS.put {w0 : World} {x : List UInt8} {p i : Int} {g : Nat} {W : World} (k : RfS w0 x p i (some (g, false)) W) : RfS w0 x p i (some (g, true)) (W.setCells g 0 (planL p i)) := by
  obtain ⟨h1, h2, h3⟩ := k
  exact ⟨⟨h1.page.put_other _ _ _ (by omega), h1.res.put_other _ _ _ (by omega), below_setCells _ (by omega) _ _ _ h1.below⟩, h2, RowAt.put h3 _ rfl⟩
theorem RdS.back {w0 : World} {x : List UInt8} {W : World} (k : RdS w0 x W) (p i : Int) : RowAt (W.setCells (w0.heap.size + 1) 0 (planL p i)) (w0.heap.size + 1) (planL p i) ∧ Below w0.heap.size w0 (W.setCells (w0.heap.size + 1) 0 (planL p i)) :=
  ⟨k.res.put _ rfl, below_setCells _ (by omega) _ _ _ k.below⟩

set_option maxRecDepth 100000 in
set_option maxHeartbeats 1000000 in
theorem read_any (x : List UInt8) (w : World) (hx : x.length = 64) :
    Calls Try.prog 18 #[pageV x] w fun e w' => e = .returned (if Pl.readB x = true then .tuple #[planV (Pg.getN x 4 2) (Pg.getN x 6 2), .int .i64 0] else .tuple #[planV 0 0, .int .i64 22]) ∧ Below w.heap.size w w' := by
  have G4 := Lib.hid (fun (w : World) => get_any x 4 2 w hx (by omega) (by omega))
  have G6 := Lib.hid (fun (w : World) => get_any x 6 2 w hx (by omega) (by omega))
  have HR : Hid (Pl.readB x = (Pl.rightB (Pg.getN x 4 2) (Pg.getN x 6 2) && decide (Pl.superP (Pg.getN x 4 2) (Pg.getN x 6 2) = x))) := Lib.hid rfl
  have HS := Lib.hid (read_box w x hx)
  generalize Pl.readB x = r at HR ⊢
  generalize Pg.getN x 4 2 = p at *
  generalize Pg.getN x 6 2 = i at *
  unfold pageV
  go_enter Try.func18, Try.ntmps18
  go_wp2_with fail
  rw [pageV_def]
  refine wp_region_lin (RfS w x p i) (fun i => i == 5 || i == 6) (fun n => [pageV x, .int .i64 p, pageV x, .int .i64 i, planV p i].getD n undef) (none) (by kernel_rfl) (by kernel_rfl) (RdS.drew HS.out) ?_
  refine lin_step (i := 0) (d := some 7) (v := pageV x) rfl rfl (by kernel_rfl) (by kernel_rfl) rfl rfl (ord_page (by kernel_rfl) (.tmp 1) rfl rfl (fun _ _ hS => (RfS.base hS).page)) ?_
  (try simp only [Act.put, List.setIfInBounds_toArray, List.set_cons_zero, List.set_cons_succ])
  refine lin_step (i := 1) (d := some 8) (v := .int .i64 p) rfl rfl (by kernel_rfl) (by kernel_rfl) rfl rfl (ord_call (f := 26) (args := #[pageV x, .int .i64 4, .int .i64 2]) (by kernel_rfl) ?_ (fun _ _ hS => (G4.out _).mono fun _ _ ⟨he, hb⟩ => ⟨he, RfS.call hS hb⟩)) ?_
  · intro _; go_simp
  (try simp only [Act.put, List.setIfInBounds_toArray, List.set_cons_zero, List.set_cons_succ])
  refine lin_step (i := 2) (d := some 9) (v := pageV x) rfl rfl (by kernel_rfl) (by kernel_rfl) rfl rfl (ord_page (by kernel_rfl) (.tmp 1) rfl rfl (fun _ _ hS => (RfS.base hS).page)) ?_
  (try simp only [Act.put, List.setIfInBounds_toArray, List.set_cons_zero, List.set_cons_succ])
  refine lin_step (i := 3) (d := some 10) (v := .int .i64 i) rfl rfl (by kernel_rfl) (by kernel_rfl) rfl rfl (ord_call (f := 26) (args := #[pageV x, .int .i64 6, .int .i64 2]) (by kernel_rfl) ?_ (fun _ _ hS => (G6.out _).mono fun _ _ ⟨he, hb⟩ => ⟨he, RfS.call hS hb⟩)) ?_
  · intro _; go_simp
  (try simp only [Act.put, List.setIfInBounds_toArray, List.set_cons_zero, List.set_cons_succ])
  refine lin_step (i := 4) (d := some 11) (v := planV p i) rfl rfl (by kernel_rfl) (by kernel_rfl) rfl rfl (ord_value (by kernel_rfl) ?_) ?_
  · intro _ _ _; go_simp; rfl
  (try simp only [Act.put, List.setIfInBounds_toArray, List.set_cons_zero, List.set_cons_succ])
  refine lin_turn (i := 5) (d := some 4) (fun u s => ∃ g, w.heap.size + 1 < g ∧ u = .pointer (some ⟨g, 0, none⟩) ∧ s = some (g, false)) rfl rfl (by kernel_rfl) (by kernel_rfl) rfl (by kernel_rfl) (⟨_, _, w.heap.size + 2, by omega, rfl, rfl⟩) (by kernel_rfl) (fun W hS => gives_to (v := .pointer (some ⟨W.heap.size, 0, none⟩)) (w' := W.alloc (.cells #[.int .i64 0, .int .i64 0] 24)) (by go_simp) ⟨some (W.heap.size, false), ⟨W.heap.size, RowAt.lt (RdS.res hS), rfl, rfl⟩, RdS.alloc hS⟩) ?_
  rintro _ _ ⟨g, hg, rfl, rfl⟩
  (try simp only [Act.put, List.setIfInBounds_toArray, List.set_cons_zero, List.set_cons_succ])
  refine lin_turn (i := 6) (d := none) (fun u s => u = undef ∧ s = some (g, true)) rfl rfl (by kernel_rfl) (by kernel_rfl) rfl (by kernel_rfl) (⟨_, _, rfl, rfl⟩) (by kernel_rfl) (fun W hS => gives_store_row planT (us := planL 0 0) (vs := planL p i) hS.2.2 rfl rfl (planL_one p i) (.tmp 4) (.tmp 11) rfl rfl rfl ⟨some (g, true), ⟨rfl, rfl⟩, RfS.put hS⟩) ?_
  rintro _ _ ⟨rfl, rfl⟩
  (try simp only [Act.put, List.setIfInBounds_toArray, List.set_cons_zero, List.set_cons_succ])
  refine lin_done (by kernel_rfl) ?_
  intro W2 hS
  have S2 : Hid (RdS w x W2) := Lib.hid hS.1
  have H2 : Hid (RowAt W2 g (planL p i)) := Lib.hid hS.2.2
  clear hS G4 G6 HS
  have HQ : Hid (pageV x = .agg (byteVals x).toArray) := Lib.hid rfl
  cases hr : Pl.rightB p i with
  | false =>
    have hr0 : r = false := by have := HR.out; rw [hr] at this; simpa using this
    subst hr0
    have HN := Lib.hid (fun w => super_no p i w hr)
    have LZ := Lib.hid zeros_length
    clear HR hr HQ
    generalize zeros = z at HN LZ
    go_wp2_with (first
      | (with_reducible refine wpList_load_row planT H2.out rfl rfl (.tmp 4) rfl rfl ?_)
      | (go_at_call 9; refine (HN.out _).mono ?_; rintro e w3 ⟨rfl, hb3⟩; have S3 := Lib.hid (S2.out.call hb3); clear S2 H2 HN hb3)
      | ((with_reducible refine wpList_store_new rfl (.tmp 5) (.tmp 15) rfl rfl ?_ ?_ LZ.out ?_); (exact rfl); (exact rfl); intro W4 hP hb4 hz4; have S4 := Lib.hid (S3.out.call hb4); clear S3 hP hb4 hz4)
      | ((with_reducible refine wpList_store_row planT (vs := planL 0 0) S4.out.res rfl rfl (planL_one 0 0) rfl (.tmp 2) (.tmp 24) rfl rfl ?_ ?_); (exact rfl)))
    have hq := S4.out.back 0 0
    exact bodyPost_ret (results_row2 planT _ 2 3 rfl _ hq.1 rfl rfl rfl) rfl ⟨rfl, hq.2⟩
  | true =>
    have HN := Lib.hid (fun w => super_yes p i w hr)
    have LZ := Lib.hid (Pl.super_length p i)
    by_cases hx2 : Pl.superP p i = x
    · have hr0 : r = true := by have := HR.out; rw [hr, hx2] at this; simpa using this
      subst hr0
      rw [hx2] at HN LZ
      have E1 := fun (a b : Operand) (w : World) => run_neGuard_page w a b x x
      have E2 := fun (w : World) => run_neq_same w x hx
      clear HR hr HQ hx2
      go_wp2_with (first
        | (with_reducible refine wpList_load_row planT H2.out rfl rfl (.tmp 4) rfl rfl ?_)
        | (go_at_call 9; refine (HN.out _).mono ?_; rintro e w3 ⟨rfl, hb3⟩; have S3 := Lib.hid (S2.out.call hb3); have H3 := Lib.hid (RowAt.step H2.out hb3); clear S2 H2 HN hb3)
        | ((with_reducible refine wpList_store_new rfl (.tmp 5) (.tmp 15) rfl rfl ?_ ?_ LZ.out ?_); (exact rfl); (exact rfl); intro W4 hP hb4 hz4; have S4 := Lib.hid (S3.out.call hb4); have H4 := Lib.hid (RowAt.step H3.out hb4); have P4 := Lib.hid hP; clear S3 H3 hP hb4 hz4; generalize w3.heap.size = D at P4 ⊢)
        | ((with_reducible refine wpList_load_guarded P4.out (.tmp 5) rfl rfl ?_ ?_); (exact rfl))
        | ((with_reducible refine wpList_load_guarded S4.out.page (.tmp 1) rfl rfl ?_ ?_); (exact rfl))
        | (with_reducible refine wpList_load_row planT H4.out rfl rfl (.tmp 4) rfl rfl ?_)
        | ((with_reducible refine wpList_store_row planT (vs := planL p i) S4.out.res rfl rfl (planL_one p i) rfl (.tmp 2) (.tmp 25) rfl rfl ?_ ?_); (exact rfl)))
      have hq := S4.out.back p i
      exact bodyPost_ret (results_row2 planT _ 2 3 rfl _ hq.1 rfl rfl rfl) rfl ⟨rfl, hq.2⟩
    · have hr0 : r = false := by have := HR.out; rw [hr, decide_eq_false hx2] at this; simpa using this
      subst hr0
      have E1 := fun (a b : Operand) (w : World) => run_neGuard_page w a b (Pl.superP p i) x
      have E2 : ∀ (w : World), (binOp .neq 33 (pageV (Pl.superP p i)) (pageV x)).run Try.prog w = .ok (.bool true) w := fun (w : World) => by
        rw [run_neq_page w (Pl.superP p i) x (Pl.super_length p i) hx, decide_eq_false hx2]; rfl
      clear HR hr HQ hx2
      generalize Pl.superP p i = z at HN LZ E1 E2
      go_wp2_with (first
        | (with_reducible refine wpList_load_row planT H2.out rfl rfl (.tmp 4) rfl rfl ?_)
        | (go_at_call 9; refine (HN.out _).mono ?_; rintro e w3 ⟨rfl, hb3⟩; have S3 := Lib.hid (S2.out.call hb3); clear S2 H2 HN hb3)
        | ((with_reducible refine wpList_store_new rfl (.tmp 5) (.tmp 15) rfl rfl ?_ ?_ LZ.out ?_); (exact rfl); (exact rfl); intro W4 hP hb4 hz4; have S4 := Lib.hid (S3.out.call hb4); have P4 := Lib.hid hP; clear S3 hP hb4 hz4; generalize w3.heap.size = D at P4 ⊢)
        | ((with_reducible refine wpList_load_guarded P4.out (.tmp 5) rfl rfl ?_ ?_); (exact rfl))
        | ((with_reducible refine wpList_load_guarded S4.out.page (.tmp 1) rfl rfl ?_ ?_); (exact rfl))
        | ((with_reducible refine wpList_store_row planT (vs := planL 0 0) S4.out.res rfl rfl (planL_one 0 0) rfl (.tmp 2) (.tmp 24) rfl rfl ?_ ?_); (exact rfl)))
      have hq := S4.out.back 0 0
      exact bodyPost_ret (results_row2 planT _ 2 3 rfl _ hq.1 rfl rfl rfl) rfl ⟨rfl, hq.2⟩
end Go.Proofs.Yteajegplbmadiaa
