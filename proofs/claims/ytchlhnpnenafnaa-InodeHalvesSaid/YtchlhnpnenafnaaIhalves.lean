/-
  Proved: InodeHalves returns true for all pages, halves and inodes: any inode in either half of any page is put and read as the document says; the other half stays.
  Conditions: none beside the statement's own.
-/
import Derived.Test.YtchlhnpnenafnaaIawake
import Derived.Test.YtchlhnpnenafnaaIrpub
import Derived.Test.YtchlhnpnenafnaaIrget
namespace Go.Proofs.Ytchlhnpnenafnaa.inodeHalves
open Go.ChangeShapes Go.WideShapes Go.ChangeAt Go.RowKit
open Ii (Ino)

/-- what stands in memory: the page, the inode -/
structure HvS (w0 : World) (p : List UInt8) (x : Ino) (W : World) : Prop where
  page : PageAt W w0.heap.size p
  ino : RowAt W (w0.heap.size + 1) (inoL x)
  below : Below w0.heap.size w0 W
theorem HvS.call {w0 : World} {p : List UInt8} {x : Ino} {W W' : World} (k : HvS w0 p x W) (hb : Below W.heap.size W W') : HvS w0 p x W' :=
  ⟨k.page.step hb, RowAt.step k.ino hb, k.below.trans (hb.mono k.below.size)⟩
theorem hvS_box (w : World) (p : List UInt8) (x : Ino) (hp : p.length = 64) : HvS w p x ((w.alloc (.cells (byteVals p).toArray 23)).alloc (.cells (inoL x).toArray 26)) where
  page := (pageAt_new w p _ hp).alloc _
  ino := by
    have h := rowAt_new (w.alloc (.cells (byteVals p).toArray 23)) (inoL x) 26
    rw [World.size_alloc] at h
    exact h
  below := ((Below.refl _ _).alloc (Nat.le_refl _) _).alloc (by simp) _
/-- the same, and the page with the inode -/
structure HwS (w0 : World) (p : List UInt8) (x : Ino) (D : Nat) (y : List UInt8) (W : World) : Prop where
  base : HvS w0 p x W
  put : PageAt W D y
theorem HwS.call {w0 : World} {p : List UInt8} {x : Ino} {D : Nat} {y : List UInt8} {W W' : World} (k : HwS w0 p x D y W) (hb : Below W.heap.size W W') : HwS w0 p x D y W' := ⟨k.base.call hb, k.put.step hb⟩

set_option maxRecDepth 100000 in
set_option maxHeartbeats 4000000 in
theorem walk_far (p : List UInt8) (h : Int) (x : Ino) (w : World) (hp : p.length = 64) (hh : h < 0 ∨ 2 ≤ h) :
    Calls Try.prog 3 #[pageV p, .int .i64 h, inoV x] w fun e w' => e = .returned (.bool true) ∧ Below w.heap.size w w' := by
  have HP := Lib.hid (fun w => put_no p h x w hp hh)
  have HG := Lib.hid (fun w => iget_no p h w hp hh)
  have HS := Lib.hid (hvS_box w p x hp)
  have E1 := fun (a b : Operand) (w : World) => run_eqGuard_page w a b p p
  have E2 := fun (w : World) => run_eql_same w p hp
  have E3 : ∀ (a b : Operand) (w : World), (eqGuard .eql 26 a b (inoV Ii.zero) (.agg #[.int .i64 0, .int .i64 0, .int .i64 0, .int .i64 0, .int .i64 0, .int .i64 0, .int .i64 0, .int .i64 0, .int .i64 0, .int .i64 0, .int .i64 0])).run Try.prog w = .ok () w := fun a b w => run_eqGuard_ino w a b Ii.zero Ii.zero
  have E4 : ∀ (w : World), (binOp .eql 26 (inoV Ii.zero) (.agg #[.int .i64 0, .int .i64 0, .int .i64 0, .int .i64 0, .int .i64 0, .int .i64 0, .int .i64 0, .int .i64 0, .int .i64 0, .int .i64 0, .int .i64 0])).run Try.prog w = .ok (.bool true) w := fun w => run_eql_ino w Ii.zero
  have g0 : (h != 0) = true := by rw [bne_iff_ne]; omega
  have g1 : (h != 1) = true := by rw [bne_iff_ne]; omega
  clear hp hh
  unfold pageV inoV
  go_enter Try.func3, Try.ntmps3
  go_wp2_with fail
  generalize hw : (w.alloc _).alloc _ = w0
  have S0 : Hid (HvS w p x w0) := Lib.hid (by rw [← hw]; exact HS.out)
  clear hw HS
  refine (awake_any _).mono ?_
  rintro e w1 ⟨rfl, hb⟩
  have S := Lib.hid (S0.out.call hb)
  clear hb S0
  go_wp2_with fail
  refine wp_region_class (C := fun w' => Below w1.heap.size w1 w') (by kernel_rfl) ⟨rfl, rfl, rfl, Nat.le_refl _, fun _ _ => rfl⟩ ?_
  refine wpQuiet_page (p := p) (.tmp 3) rfl rfl (by kernel_rfl) (fun w' hw' => (S.out.call hw').page) ?_
  (try simp only [Act.put, List.setIfInBounds_toArray, List.set_cons_zero, List.set_cons_succ])
  refine wpQuiet_take (.int .i64 h) (by kernel_rfl) (fun w' hw' => ?_) ?_
  · go_simp
  (try simp only [Act.put, List.setIfInBounds_toArray, List.set_cons_zero, List.set_cons_succ])
  refine wpQuiet_row inoT (vs := inoL x) rfl (.tmp 5) rfl rfl (by kernel_rfl) (fun w' hw' => (S.out.call hw').ino) ?_
  (try simp only [Act.put, List.setIfInBounds_toArray, List.set_cons_zero, List.set_cons_succ])
  refine wpQuiet_call 7 #[pageV p, .int .i64 h, inoV x] (pageV p) (by kernel_rfl) (fun w' => by (go_simp) <;> rfl) (fun w' hw' => (HP.out w').mono fun e w'' h => ⟨h.1, hw'.trans (h.2.mono hw'.size)⟩) ?_
  (try simp only [Act.put, List.setIfInBounds_toArray, List.set_cons_zero, List.set_cons_succ])
  refine wpQuiet_page (p := p) (.tmp 3) rfl rfl (by kernel_rfl) (fun w' hw' => (S.out.call hw').page) ?_
  (try simp only [Act.put, List.setIfInBounds_toArray, List.set_cons_zero, List.set_cons_succ])
  refine wpQuiet_take (.bool true) (by kernel_rfl) (fun w' hw' => ?_) ?_
  · go_simp
  (try simp only [Act.put, List.setIfInBounds_toArray, List.set_cons_zero, List.set_cons_succ])
  refine wpQuiet_take (.bool true) (by kernel_rfl) (fun w' hw' => ?_) ?_
  · go_simp
  (try simp only [Act.put, List.setIfInBounds_toArray, List.set_cons_zero, List.set_cons_succ])
  refine wpQuiet_page (p := p) (.tmp 3) rfl rfl (by kernel_rfl) (fun w' hw' => (S.out.call hw').page) ?_
  (try simp only [Act.put, List.setIfInBounds_toArray, List.set_cons_zero, List.set_cons_succ])
  refine wpQuiet_take (.int .i64 h) (by kernel_rfl) (fun w' hw' => ?_) ?_
  · go_simp
  (try simp only [Act.put, List.setIfInBounds_toArray, List.set_cons_zero, List.set_cons_succ])
  refine wpQuiet_call 8 #[pageV p, .int .i64 h] (inoV Ii.zero) (by kernel_rfl) (fun w' => by (go_simp) <;> rfl) (fun w' hw' => (HG.out w').mono fun e w'' h => ⟨h.1, hw'.trans (h.2.mono hw'.size)⟩) ?_
  (try simp only [Act.put, List.setIfInBounds_toArray, List.set_cons_zero, List.set_cons_succ])
  refine wpQuiet_take (.agg #[.int .i64 0, .int .i64 0, .int .i64 0, .int .i64 0, .int .i64 0, .int .i64 0, .int .i64 0, .int .i64 0, .int .i64 0, .int .i64 0, .int .i64 0]) (by kernel_rfl) (fun w' hw' => ?_) ?_
  · go_simp
  (try simp only [Act.put, List.setIfInBounds_toArray, List.set_cons_zero, List.set_cons_succ])
  refine wpQuiet_take (.bool true) (by kernel_rfl) (fun w' hw' => ?_) ?_
  · go_simp
  (try simp only [Act.put, List.setIfInBounds_toArray, List.set_cons_zero, List.set_cons_succ])
  refine wpQuiet_take (.bool true) (by kernel_rfl) (fun w' hw' => ?_) ?_
  · go_simp
  (try simp only [Act.put, List.setIfInBounds_toArray, List.set_cons_zero, List.set_cons_succ])
  refine wpQuiet_take (.bool true) (by kernel_rfl) (fun w' hw' => ?_) ?_
  · go_simp
  (try simp only [Act.put, List.setIfInBounds_toArray, List.set_cons_zero, List.set_cons_succ])
  refine wpQuiet_nil ?_
  intro w2 hw2
  have hs := (S.out.call hw2).below
  go_wp2
  go_ret
  exact ⟨rfl, hs⟩

set_option maxRecDepth 100000 in
set_option maxHeartbeats 4000000 in
theorem walk_0 (p : List UInt8) (x : Ino) (w : World) (hp : p.length = 64) :
    Calls Try.prog 3 #[pageV p, .int .i64 0, inoV x] w fun e w' => e = .returned (.bool true) ∧ Below w.heap.size w w' := by
  have hy := Ii.putN_length p 0 x hp (by decide)
  have ho : Ii.getI (Ii.putN p 0 x) 32 = Ii.getI p 32 := Ii.get_other p 0 32 x hp (by omega) (by omega) (by omega)
  obtain ⟨y, EY⟩ : ∃ y, Hid (y = Ii.putN p 0 x) := ⟨_, Lib.hid rfl⟩
  obtain ⟨g, EG⟩ : ∃ g, Hid (g = Ii.getI p 0) := ⟨_, Lib.hid rfl⟩
  obtain ⟨o, EO⟩ : ∃ o, Hid (o = Ii.getI p 32) := ⟨_, Lib.hid rfl⟩
  rw [← EY.out] at hy ho
  rw [← EO.out] at ho
  have HP : Hid (∀ w, Calls Try.prog 7 #[pageV p, .int .i64 0, .agg (inoL x).toArray] w fun e w' => e = .returned (pageV y) ∧ Below w.heap.size w w') := Lib.hid (fun w => by rw [EY.out]; exact put_0 p x w hp)
  have HQ : Hid (∀ w, Calls Try.prog 9 #[pageV p, .int .i64 0, inoV x] w fun e w' => e = .returned (pageV y) ∧ Below w.heap.size w w') := Lib.hid (fun w => by rw [EY.out]; exact rput_0 p x w hp)
  have HG : Hid (∀ w, Calls Try.prog 8 #[pageV p, .int .i64 0] w fun e w' => e = .returned (inoV g) ∧ Below w.heap.size w w') := Lib.hid (fun w => by rw [EG.out]; exact iget_0 p w hp)
  have HR : Hid (∀ w, Calls Try.prog 10 #[pageV p, .int .i64 0] w fun e w' => e = .returned (inoV g) ∧ Below w.heap.size w w') := Lib.hid (fun w => by rw [EG.out]; exact irget_0 p w hp)
  have HO : Hid (∀ w, Calls Try.prog 8 #[pageV p, .int .i64 1] w fun e w' => e = .returned (inoV o) ∧ Below w.heap.size w w') := Lib.hid (fun w => by rw [EO.out]; exact iget_1 p w hp)
  have HT : Hid (∀ w, Calls Try.prog 8 #[pageV y, .int .i64 1] w fun e w' => e = .returned (inoV o) ∧ Below w.heap.size w w') := Lib.hid (fun w => by rw [← ho]; exact iget_1 y w hy)
  have HS := Lib.hid (hvS_box w p x hp)
  have E1 := fun (a b : Operand) (w : World) => run_eqGuard_page w a b y y
  have E2 := fun (w : World) => run_eql_same w y hy
  have E3 := fun (a b : Operand) (w : World) => run_eqGuard_rino w a b g g
  have E4 := fun (w : World) => run_eql_rino w g
  have E5 := fun (a b : Operand) (w : World) => run_eqGuard_ino w a b o o
  have E6 := fun (w : World) => run_eql_ino w o
  have LY := Lib.hid hy
  clear hp hy ho EY EG EO
  unfold pageV inoV
  go_enter Try.func3, Try.ntmps3
  go_wp2_with fail
  generalize hw : (w.alloc _).alloc _ = w0
  have S0 : Hid (HvS w p x w0) := Lib.hid (by rw [← hw]; exact HS.out)
  clear hw HS
  refine (awake_any _).mono ?_
  rintro e w1 ⟨rfl, hb⟩
  have S := Lib.hid (S0.out.call hb)
  clear hb S0
  go_wp2_with (first
    | (with_reducible refine wpList_load_page S.out.page rfl (.tmp 3) rfl rfl ?_)
    | (with_reducible refine wpList_load_row inoT S.out.ino rfl rfl (.tmp 5) rfl rfl ?_)
    | (go_at_call 7; (with_reducible refine (HP.out _).mono ?_); rintro e w2 ⟨rfl, hb⟩; replace S := Lib.hid (S.out.call hb); clear hb)
    | ((with_reducible refine wpList_store_new rfl (.tmp 7) (.tmp 32) rfl rfl ?_ ?_ LY.out ?_); (exact rfl); (exact rfl); intro W3 hP hb hz; replace S : Hid (HwS w p x w2.heap.size y W3) := Lib.hid ⟨S.out.call hb, hP⟩; clear hP hb hz; generalize w2.heap.size = D at S ⊢))
  refine wp_region_class (C := fun w' => Below W3.heap.size W3 w') (by kernel_rfl) ⟨rfl, rfl, rfl, Nat.le_refl _, fun _ _ => rfl⟩ ?_
  refine wpQuiet_page (p := y) (.tmp 7) rfl rfl (by kernel_rfl) (fun w' hw' => (S.out.call hw').put) ?_
  (try simp only [Act.put, List.setIfInBounds_toArray, List.set_cons_zero, List.set_cons_succ])
  refine wpQuiet_page (p := p) (.tmp 3) rfl rfl (by kernel_rfl) (fun w' hw' => (S.out.call hw').base.page) ?_
  (try simp only [Act.put, List.setIfInBounds_toArray, List.set_cons_zero, List.set_cons_succ])
  refine wpQuiet_take (.int .i64 0) (by kernel_rfl) (fun w' hw' => ?_) ?_
  · go_simp
  (try simp only [Act.put, List.setIfInBounds_toArray, List.set_cons_zero, List.set_cons_succ])
  refine wpQuiet_row inoT (vs := inoL x) rfl (.tmp 5) rfl rfl (by kernel_rfl) (fun w' hw' => (S.out.call hw').base.ino) ?_
  (try simp only [Act.put, List.setIfInBounds_toArray, List.set_cons_zero, List.set_cons_succ])
  refine wpQuiet_call 9 #[pageV p, .int .i64 0, inoV x] (pageV y) (by kernel_rfl) (fun w' => by (go_simp) <;> rfl) (fun w' hw' => (HQ.out w').mono fun e w'' h => ⟨h.1, hw'.trans (h.2.mono hw'.size)⟩) ?_
  (try simp only [Act.put, List.setIfInBounds_toArray, List.set_cons_zero, List.set_cons_succ])
  refine wpQuiet_take (.bool true) (by kernel_rfl) (fun w' hw' => ?_) ?_
  · go_simp
  (try simp only [Act.put, List.setIfInBounds_toArray, List.set_cons_zero, List.set_cons_succ])
  refine wpQuiet_take (.bool true) (by kernel_rfl) (fun w' hw' => ?_) ?_
  · go_simp
  (try simp only [Act.put, List.setIfInBounds_toArray, List.set_cons_zero, List.set_cons_succ])
  refine wpQuiet_page (p := p) (.tmp 3) rfl rfl (by kernel_rfl) (fun w' hw' => (S.out.call hw').base.page) ?_
  (try simp only [Act.put, List.setIfInBounds_toArray, List.set_cons_zero, List.set_cons_succ])
  refine wpQuiet_take (.int .i64 0) (by kernel_rfl) (fun w' hw' => ?_) ?_
  · go_simp
  (try simp only [Act.put, List.setIfInBounds_toArray, List.set_cons_zero, List.set_cons_succ])
  refine wpQuiet_call 8 #[pageV p, .int .i64 0] (inoV g) (by kernel_rfl) (fun w' => by (go_simp) <;> rfl) (fun w' hw' => (HG.out w').mono fun e w'' h => ⟨h.1, hw'.trans (h.2.mono hw'.size)⟩) ?_
  (try simp only [Act.put, List.setIfInBounds_toArray, List.set_cons_zero, List.set_cons_succ])
  refine wpQuiet_page (p := p) (.tmp 3) rfl rfl (by kernel_rfl) (fun w' hw' => (S.out.call hw').base.page) ?_
  (try simp only [Act.put, List.setIfInBounds_toArray, List.set_cons_zero, List.set_cons_succ])
  refine wpQuiet_take (.int .i64 0) (by kernel_rfl) (fun w' hw' => ?_) ?_
  · go_simp
  (try simp only [Act.put, List.setIfInBounds_toArray, List.set_cons_zero, List.set_cons_succ])
  refine wpQuiet_call 10 #[pageV p, .int .i64 0] (inoV g) (by kernel_rfl) (fun w' => by (go_simp) <;> rfl) (fun w' hw' => (HR.out w').mono fun e w'' h => ⟨h.1, hw'.trans (h.2.mono hw'.size)⟩) ?_
  (try simp only [Act.put, List.setIfInBounds_toArray, List.set_cons_zero, List.set_cons_succ])
  refine wpQuiet_take (.bool true) (by kernel_rfl) (fun w' hw' => ?_) ?_
  · go_simp
  (try simp only [Act.put, List.setIfInBounds_toArray, List.set_cons_zero, List.set_cons_succ])
  refine wpQuiet_take (.bool true) (by kernel_rfl) (fun w' hw' => ?_) ?_
  · go_simp
  (try simp only [Act.put, List.setIfInBounds_toArray, List.set_cons_zero, List.set_cons_succ])
  refine wpQuiet_take (.bool true) (by kernel_rfl) (fun w' hw' => ?_) ?_
  · go_simp
  (try simp only [Act.put, List.setIfInBounds_toArray, List.set_cons_zero, List.set_cons_succ])
  refine wpQuiet_page (p := y) (.tmp 7) rfl rfl (by kernel_rfl) (fun w' hw' => (S.out.call hw').put) ?_
  (try simp only [Act.put, List.setIfInBounds_toArray, List.set_cons_zero, List.set_cons_succ])
  refine wpQuiet_take (.int .i64 0) (by kernel_rfl) (fun w' hw' => ?_) ?_
  · go_simp
  (try simp only [Act.put, List.setIfInBounds_toArray, List.set_cons_zero, List.set_cons_succ])
  refine wpQuiet_take (.int .i64 1) (by kernel_rfl) (fun w' hw' => ?_) ?_
  · (go_simp) <;> kernel_rfl
  (try simp only [Act.put, List.setIfInBounds_toArray, List.set_cons_zero, List.set_cons_succ])
  refine wpQuiet_call 8 #[pageV y, .int .i64 1] (inoV o) (by kernel_rfl) (fun w' => by (go_simp) <;> rfl) (fun w' hw' => (HT.out w').mono fun e w'' h => ⟨h.1, hw'.trans (h.2.mono hw'.size)⟩) ?_
  (try simp only [Act.put, List.setIfInBounds_toArray, List.set_cons_zero, List.set_cons_succ])
  refine wpQuiet_page (p := p) (.tmp 3) rfl rfl (by kernel_rfl) (fun w' hw' => (S.out.call hw').base.page) ?_
  (try simp only [Act.put, List.setIfInBounds_toArray, List.set_cons_zero, List.set_cons_succ])
  refine wpQuiet_take (.int .i64 0) (by kernel_rfl) (fun w' hw' => ?_) ?_
  · go_simp
  (try simp only [Act.put, List.setIfInBounds_toArray, List.set_cons_zero, List.set_cons_succ])
  refine wpQuiet_take (.int .i64 1) (by kernel_rfl) (fun w' hw' => ?_) ?_
  · (go_simp) <;> kernel_rfl
  (try simp only [Act.put, List.setIfInBounds_toArray, List.set_cons_zero, List.set_cons_succ])
  refine wpQuiet_call 8 #[pageV p, .int .i64 1] (inoV o) (by kernel_rfl) (fun w' => by (go_simp) <;> rfl) (fun w' hw' => (HO.out w').mono fun e w'' h => ⟨h.1, hw'.trans (h.2.mono hw'.size)⟩) ?_
  (try simp only [Act.put, List.setIfInBounds_toArray, List.set_cons_zero, List.set_cons_succ])
  refine wpQuiet_take (.bool true) (by kernel_rfl) (fun w' hw' => ?_) ?_
  · go_simp
  (try simp only [Act.put, List.setIfInBounds_toArray, List.set_cons_zero, List.set_cons_succ])
  refine wpQuiet_take (.bool true) (by kernel_rfl) (fun w' hw' => ?_) ?_
  · go_simp
  (try simp only [Act.put, List.setIfInBounds_toArray, List.set_cons_zero, List.set_cons_succ])
  refine wpQuiet_take (.bool true) (by kernel_rfl) (fun w' hw' => ?_) ?_
  · go_simp
  (try simp only [Act.put, List.setIfInBounds_toArray, List.set_cons_zero, List.set_cons_succ])
  refine wpQuiet_nil ?_
  intro w4 hw4
  have hs := (S.out.call hw4).base.below
  go_wp2
  go_ret
  exact ⟨rfl, hs⟩

set_option maxRecDepth 100000 in
set_option maxHeartbeats 4000000 in
theorem walk_1 (p : List UInt8) (x : Ino) (w : World) (hp : p.length = 64) :
    Calls Try.prog 3 #[pageV p, .int .i64 1, inoV x] w fun e w' => e = .returned (.bool true) ∧ Below w.heap.size w w' := by
  have hy := Ii.putN_length p 32 x hp (by decide)
  have ho : Ii.getI (Ii.putN p 32 x) 0 = Ii.getI p 0 := Ii.get_other p 32 0 x hp (by omega) (by omega) (by omega)
  obtain ⟨y, EY⟩ : ∃ y, Hid (y = Ii.putN p 32 x) := ⟨_, Lib.hid rfl⟩
  obtain ⟨g, EG⟩ : ∃ g, Hid (g = Ii.getI p 32) := ⟨_, Lib.hid rfl⟩
  obtain ⟨o, EO⟩ : ∃ o, Hid (o = Ii.getI p 0) := ⟨_, Lib.hid rfl⟩
  rw [← EY.out] at hy ho
  rw [← EO.out] at ho
  have HP : Hid (∀ w, Calls Try.prog 7 #[pageV p, .int .i64 1, .agg (inoL x).toArray] w fun e w' => e = .returned (pageV y) ∧ Below w.heap.size w w') := Lib.hid (fun w => by rw [EY.out]; exact put_1 p x w hp)
  have HQ : Hid (∀ w, Calls Try.prog 9 #[pageV p, .int .i64 1, inoV x] w fun e w' => e = .returned (pageV y) ∧ Below w.heap.size w w') := Lib.hid (fun w => by rw [EY.out]; exact rput_1 p x w hp)
  have HG : Hid (∀ w, Calls Try.prog 8 #[pageV p, .int .i64 1] w fun e w' => e = .returned (inoV g) ∧ Below w.heap.size w w') := Lib.hid (fun w => by rw [EG.out]; exact iget_1 p w hp)
  have HR : Hid (∀ w, Calls Try.prog 10 #[pageV p, .int .i64 1] w fun e w' => e = .returned (inoV g) ∧ Below w.heap.size w w') := Lib.hid (fun w => by rw [EG.out]; exact irget_1 p w hp)
  have HO : Hid (∀ w, Calls Try.prog 8 #[pageV p, .int .i64 0] w fun e w' => e = .returned (inoV o) ∧ Below w.heap.size w w') := Lib.hid (fun w => by rw [EO.out]; exact iget_0 p w hp)
  have HT : Hid (∀ w, Calls Try.prog 8 #[pageV y, .int .i64 0] w fun e w' => e = .returned (inoV o) ∧ Below w.heap.size w w') := Lib.hid (fun w => by rw [← ho]; exact iget_0 y w hy)
  have HS := Lib.hid (hvS_box w p x hp)
  have E1 := fun (a b : Operand) (w : World) => run_eqGuard_page w a b y y
  have E2 := fun (w : World) => run_eql_same w y hy
  have E3 := fun (a b : Operand) (w : World) => run_eqGuard_rino w a b g g
  have E4 := fun (w : World) => run_eql_rino w g
  have E5 := fun (a b : Operand) (w : World) => run_eqGuard_ino w a b o o
  have E6 := fun (w : World) => run_eql_ino w o
  have LY := Lib.hid hy
  clear hp hy ho EY EG EO
  unfold pageV inoV
  go_enter Try.func3, Try.ntmps3
  go_wp2_with fail
  generalize hw : (w.alloc _).alloc _ = w0
  have S0 : Hid (HvS w p x w0) := Lib.hid (by rw [← hw]; exact HS.out)
  clear hw HS
  refine (awake_any _).mono ?_
  rintro e w1 ⟨rfl, hb⟩
  have S := Lib.hid (S0.out.call hb)
  clear hb S0
  go_wp2_with (first
    | (with_reducible refine wpList_load_page S.out.page rfl (.tmp 3) rfl rfl ?_)
    | (with_reducible refine wpList_load_row inoT S.out.ino rfl rfl (.tmp 5) rfl rfl ?_)
    | (go_at_call 7; (with_reducible refine (HP.out _).mono ?_); rintro e w2 ⟨rfl, hb⟩; replace S := Lib.hid (S.out.call hb); clear hb)
    | ((with_reducible refine wpList_store_new rfl (.tmp 7) (.tmp 32) rfl rfl ?_ ?_ LY.out ?_); (exact rfl); (exact rfl); intro W3 hP hb hz; replace S : Hid (HwS w p x w2.heap.size y W3) := Lib.hid ⟨S.out.call hb, hP⟩; clear hP hb hz; generalize w2.heap.size = D at S ⊢))
  refine wp_region_class (C := fun w' => Below W3.heap.size W3 w') (by kernel_rfl) ⟨rfl, rfl, rfl, Nat.le_refl _, fun _ _ => rfl⟩ ?_
  refine wpQuiet_page (p := y) (.tmp 7) rfl rfl (by kernel_rfl) (fun w' hw' => (S.out.call hw').put) ?_
  (try simp only [Act.put, List.setIfInBounds_toArray, List.set_cons_zero, List.set_cons_succ])
  refine wpQuiet_page (p := p) (.tmp 3) rfl rfl (by kernel_rfl) (fun w' hw' => (S.out.call hw').base.page) ?_
  (try simp only [Act.put, List.setIfInBounds_toArray, List.set_cons_zero, List.set_cons_succ])
  refine wpQuiet_take (.int .i64 1) (by kernel_rfl) (fun w' hw' => ?_) ?_
  · go_simp
  (try simp only [Act.put, List.setIfInBounds_toArray, List.set_cons_zero, List.set_cons_succ])
  refine wpQuiet_row inoT (vs := inoL x) rfl (.tmp 5) rfl rfl (by kernel_rfl) (fun w' hw' => (S.out.call hw').base.ino) ?_
  (try simp only [Act.put, List.setIfInBounds_toArray, List.set_cons_zero, List.set_cons_succ])
  refine wpQuiet_call 9 #[pageV p, .int .i64 1, inoV x] (pageV y) (by kernel_rfl) (fun w' => by (go_simp) <;> rfl) (fun w' hw' => (HQ.out w').mono fun e w'' h => ⟨h.1, hw'.trans (h.2.mono hw'.size)⟩) ?_
  (try simp only [Act.put, List.setIfInBounds_toArray, List.set_cons_zero, List.set_cons_succ])
  refine wpQuiet_take (.bool true) (by kernel_rfl) (fun w' hw' => ?_) ?_
  · go_simp
  (try simp only [Act.put, List.setIfInBounds_toArray, List.set_cons_zero, List.set_cons_succ])
  refine wpQuiet_take (.bool true) (by kernel_rfl) (fun w' hw' => ?_) ?_
  · go_simp
  (try simp only [Act.put, List.setIfInBounds_toArray, List.set_cons_zero, List.set_cons_succ])
  refine wpQuiet_page (p := p) (.tmp 3) rfl rfl (by kernel_rfl) (fun w' hw' => (S.out.call hw').base.page) ?_
  (try simp only [Act.put, List.setIfInBounds_toArray, List.set_cons_zero, List.set_cons_succ])
  refine wpQuiet_take (.int .i64 1) (by kernel_rfl) (fun w' hw' => ?_) ?_
  · go_simp
  (try simp only [Act.put, List.setIfInBounds_toArray, List.set_cons_zero, List.set_cons_succ])
  refine wpQuiet_call 8 #[pageV p, .int .i64 1] (inoV g) (by kernel_rfl) (fun w' => by (go_simp) <;> rfl) (fun w' hw' => (HG.out w').mono fun e w'' h => ⟨h.1, hw'.trans (h.2.mono hw'.size)⟩) ?_
  (try simp only [Act.put, List.setIfInBounds_toArray, List.set_cons_zero, List.set_cons_succ])
  refine wpQuiet_page (p := p) (.tmp 3) rfl rfl (by kernel_rfl) (fun w' hw' => (S.out.call hw').base.page) ?_
  (try simp only [Act.put, List.setIfInBounds_toArray, List.set_cons_zero, List.set_cons_succ])
  refine wpQuiet_take (.int .i64 1) (by kernel_rfl) (fun w' hw' => ?_) ?_
  · go_simp
  (try simp only [Act.put, List.setIfInBounds_toArray, List.set_cons_zero, List.set_cons_succ])
  refine wpQuiet_call 10 #[pageV p, .int .i64 1] (inoV g) (by kernel_rfl) (fun w' => by (go_simp) <;> rfl) (fun w' hw' => (HR.out w').mono fun e w'' h => ⟨h.1, hw'.trans (h.2.mono hw'.size)⟩) ?_
  (try simp only [Act.put, List.setIfInBounds_toArray, List.set_cons_zero, List.set_cons_succ])
  refine wpQuiet_take (.bool true) (by kernel_rfl) (fun w' hw' => ?_) ?_
  · go_simp
  (try simp only [Act.put, List.setIfInBounds_toArray, List.set_cons_zero, List.set_cons_succ])
  refine wpQuiet_take (.bool true) (by kernel_rfl) (fun w' hw' => ?_) ?_
  · go_simp
  (try simp only [Act.put, List.setIfInBounds_toArray, List.set_cons_zero, List.set_cons_succ])
  refine wpQuiet_take (.bool true) (by kernel_rfl) (fun w' hw' => ?_) ?_
  · go_simp
  (try simp only [Act.put, List.setIfInBounds_toArray, List.set_cons_zero, List.set_cons_succ])
  refine wpQuiet_page (p := y) (.tmp 7) rfl rfl (by kernel_rfl) (fun w' hw' => (S.out.call hw').put) ?_
  (try simp only [Act.put, List.setIfInBounds_toArray, List.set_cons_zero, List.set_cons_succ])
  refine wpQuiet_take (.int .i64 1) (by kernel_rfl) (fun w' hw' => ?_) ?_
  · go_simp
  (try simp only [Act.put, List.setIfInBounds_toArray, List.set_cons_zero, List.set_cons_succ])
  refine wpQuiet_take (.int .i64 0) (by kernel_rfl) (fun w' hw' => ?_) ?_
  · (go_simp) <;> kernel_rfl
  (try simp only [Act.put, List.setIfInBounds_toArray, List.set_cons_zero, List.set_cons_succ])
  refine wpQuiet_call 8 #[pageV y, .int .i64 0] (inoV o) (by kernel_rfl) (fun w' => by (go_simp) <;> rfl) (fun w' hw' => (HT.out w').mono fun e w'' h => ⟨h.1, hw'.trans (h.2.mono hw'.size)⟩) ?_
  (try simp only [Act.put, List.setIfInBounds_toArray, List.set_cons_zero, List.set_cons_succ])
  refine wpQuiet_page (p := p) (.tmp 3) rfl rfl (by kernel_rfl) (fun w' hw' => (S.out.call hw').base.page) ?_
  (try simp only [Act.put, List.setIfInBounds_toArray, List.set_cons_zero, List.set_cons_succ])
  refine wpQuiet_take (.int .i64 1) (by kernel_rfl) (fun w' hw' => ?_) ?_
  · go_simp
  (try simp only [Act.put, List.setIfInBounds_toArray, List.set_cons_zero, List.set_cons_succ])
  refine wpQuiet_take (.int .i64 0) (by kernel_rfl) (fun w' hw' => ?_) ?_
  · (go_simp) <;> kernel_rfl
  (try simp only [Act.put, List.setIfInBounds_toArray, List.set_cons_zero, List.set_cons_succ])
  refine wpQuiet_call 8 #[pageV p, .int .i64 0] (inoV o) (by kernel_rfl) (fun w' => by (go_simp) <;> rfl) (fun w' hw' => (HO.out w').mono fun e w'' h => ⟨h.1, hw'.trans (h.2.mono hw'.size)⟩) ?_
  (try simp only [Act.put, List.setIfInBounds_toArray, List.set_cons_zero, List.set_cons_succ])
  refine wpQuiet_take (.bool true) (by kernel_rfl) (fun w' hw' => ?_) ?_
  · go_simp
  (try simp only [Act.put, List.setIfInBounds_toArray, List.set_cons_zero, List.set_cons_succ])
  refine wpQuiet_take (.bool true) (by kernel_rfl) (fun w' hw' => ?_) ?_
  · go_simp
  (try simp only [Act.put, List.setIfInBounds_toArray, List.set_cons_zero, List.set_cons_succ])
  refine wpQuiet_take (.bool true) (by kernel_rfl) (fun w' hw' => ?_) ?_
  · go_simp
  (try simp only [Act.put, List.setIfInBounds_toArray, List.set_cons_zero, List.set_cons_succ])
  refine wpQuiet_nil ?_
  intro w4 hw4
  have hs := (S.out.call hw4).base.below
  go_wp2
  go_ret
  exact ⟨rfl, hs⟩

theorem walk (p : List UInt8) (h : Int) (x : Ino) (w : World) (hp : p.length = 64) :
    Calls Try.prog 3 #[pageV p, .int .i64 h, inoV x] w fun e w' => e = .returned (.bool true) ∧ Below w.heap.size w w' := by
  by_cases h0 : h = 0
  · subst h0; exact walk_0 p x w hp
  · by_cases h1 : h = 1
    · subst h1; exact walk_1 p x w hp
    · exact walk_far p h x w hp (by omega)
set_option maxRecDepth 100000 in
theorem lifted (os : Os) (started : os.Started) (H : Type) (enc : TypeId × Value → H) :
    ReturnsInHanded {} Try.checked os 3 .any (Rows.inodeHalvesSpec.pre6 enc Try.prog Try.f3 Rows.inodeHalvesRow.domain false) (Rows.inodeHalvesSpec.post enc Try.prog Try.f3 false true false false) := by
  refine returnsInHanded_of_change (C := Try.checked) own started (by kernel_rfl) Try.func3
    (ChangeSpec.witness6 (enc := enc) (C := Try.checked) false ⟨#[], #[.agg #[.int .u8 0, .int .u8 0, .int .u8 0, .int .u8 0, .int .u8 0, .int .u8 0, .int .u8 0, .int .u8 0, .int .u8 0, .int .u8 0, .int .u8 0, .int .u8 0, .int .u8 0, .int .u8 0, .int .u8 0, .int .u8 0, .int .u8 0, .int .u8 0, .int .u8 0, .int .u8 0, .int .u8 0, .int .u8 0, .int .u8 0, .int .u8 0, .int .u8 0, .int .u8 0, .int .u8 0, .int .u8 0, .int .u8 0, .int .u8 0, .int .u8 0, .int .u8 0, .int .u8 0, .int .u8 0, .int .u8 0, .int .u8 0, .int .u8 0, .int .u8 0, .int .u8 0, .int .u8 0, .int .u8 0, .int .u8 0, .int .u8 0, .int .u8 0, .int .u8 0, .int .u8 0, .int .u8 0, .int .u8 0, .int .u8 0, .int .u8 0, .int .u8 0, .int .u8 0, .int .u8 0, .int .u8 0, .int .u8 0, .int .u8 0, .int .u8 0, .int .u8 0, .int .u8 0, .int .u8 0, .int .u8 0, .int .u8 0, .int .u8 0, .int .u8 0], .int .i64 0, .agg #[.int .i64 0, .int .i64 0, .int .i64 0, .int .i64 0, .int .i64 0, .int .i64 0, .int .i64 0, .int .i64 0, .int .i64 0, .int .i64 0, .int .i64 0]], []⟩ 8 (by kernel_rfl) (by kernel_rfl) (by kernel_rfl) (by kernel_rfl)) ?_
  intro W base args ds gs before hval0 hW hcnd _
  have hval : ∀ (j : Nat) t v, Try.f3.params[j]? = some t → args[j]? = some v → Value.okWide Try.prog W .any base t v := hval0
  have hW' := hW
  obtain ⟨p, q, hA0, hV, rfl, hfz, hnd⟩ := hW
  have hA : DataW.TrodAll enc Try.prog W 0 (fun _ => true) true Try.f3.params.toList args.toList ds p := hA0
  rw [Try.params3] at hA hval
  obtain ⟨v0, vs0, d0, ds0, p0, q0, hargs, rfl, rfl, h0, r0⟩ := trodAll_cons hA
  obtain ⟨v1, vs1, d1, ds1, p1, q1, rfl, rfl, rfl, h1, r1⟩ := trodAll_cons r0
  obtain ⟨v2, vs2, d2, ds2, p2, q2, rfl, rfl, rfl, h2, r2⟩ := trodAll_cons r1
  obtain ⟨rfl, rfl, rfl⟩ := trodAll_nil r2
  obtain rfl : args = #[v0, v1, v2] := by cases args; simp_all
  obtain ⟨rfl, rfl⟩ := trodVars_none hV
  have k0 := h0
  have lt0 : ∀ x ∈ p0, x.block < W.heap.size := by obtain ⟨m, hm⟩ := k0; exact DataW.trod_lt m _ _ _ hm
  have k1 := h1
  have lt1 : ∀ x ∈ p1, x.block < W.heap.size := by obtain ⟨m, hm⟩ := k1; exact DataW.trod_lt m _ _ _ hm
  have k2 := h2
  have lt2 : ∀ x ∈ p2, x.block < W.heap.size := by obtain ⟨m, hm⟩ := k2; exact DataW.trod_lt m _ _ _ hm
  obtain ⟨p, hq0, rfl⟩ := open_page (hval 0 23 v0 rfl rfl) h0
  obtain ⟨h, rfl, ed1, ep1, w1⟩ := open_int Try.underlying3 (hval 1 3 v1 rfl rfl) h1
  obtain ⟨x, rfl⟩ := open_ino (hval 2 26 v2 rfl rfl) h2
  clear hA0 hval0
  refine (walk p h x W hq0).mono fun e W' ⟨he, bel⟩ => ?_
  subst he
  exact ⟨_, rfl, _, _, _, [], _, [], hW', trodAll_mk1 (shut_bool Try.underlying4 _), (trodAll_cons_mk (Below.trod laidOut (by kernel_rfl) (of_decide_eq_true (by kernel_rfl)) k0 bel lt0) (trodAll_cons_mk (Below.trod laidOut (by kernel_rfl) (of_decide_eq_true (by kernel_rfl)) k1 bel lt1) (trodAll_cons_mk (Below.trod laidOut (by kernel_rfl) (of_decide_eq_true (by kernel_rfl)) k2 bel lt2) trodAll_mk0))), rfl, bel.frame _, fun h => by cases h⟩
theorem over : Rows.inodeHalvesRow.holds Try.pinned (OpenSpec.ofChange Rows.inodeHalvesSpec) :=
  OpenClaim.holds_of_wide 3 Try.f3 rfl rfl rfl rfl rfl rfl rfl ⟨rfl, rfl, rfl, rfl, rfl⟩ rfl rfl rfl rfl rfl (by kernel_rfl) Try.func3 (by kernel_rfl)
    (of_decide_eq_true (by kernel_rfl)) (by unfold Func.isWrapper; first | (rw [if_pos (by decide +kernel)]; kernel_rfl) | (rw [if_neg (by decide +kernel)]; exact ⟨rfl, rfl⟩))
    (fun os started H enc _ => lifted os started H enc)

/-- THE STATEMENT -/
theorem proved : Rows.InodeHalvesSaid := over
#print axioms proved
end Go.Proofs.Ytchlhnpnenafnaa.inodeHalves
