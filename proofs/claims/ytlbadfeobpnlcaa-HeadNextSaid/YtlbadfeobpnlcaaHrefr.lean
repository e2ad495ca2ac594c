/-
  The contract of the document's own Read.
-/
import Derived.Test.YtlbadfeobpnlcaaHopen
namespace Go.Proofs.Ytlbadfeobpnlcaa
open Go.RowKit
open Hd (Head rightB pageH)

theorem RdS.drew {w0 : World} {p : List UInt8} {h : Head} {b : Bool} {W : World} (k : RdS w0 p h b W) : RdS w0 p h b W.drew := ⟨k.page.drew, k.res.drew, k.below.drew⟩
theorem rdS_boxr (w : World) (p : List UInt8) (h : Head) (hp : p.length = 64) : RdS w p h false ((w.alloc (.cells (byteVals p).toArray 28)).alloc (.cells #[.int .i64 0, .bool false, .int .i64 0, .int .u32 0] 26)) where
  page := (pageAt_new w p _ hp).alloc _
  res := by
    have := headAt_new (w.alloc (.cells (byteVals p).toArray 28)) Hd.zero 26
    have e : (w.alloc (.cells (byteVals p).toArray 28)).heap.size = w.heap.size + 1 := by simp
    rw [e] at this
    exact this
  below := ((Below.refl _ _).alloc (Nat.le_refl _) _).alloc (by simp) _
/-- the same, and the head that is made, empty or laid in -/
def RfS (w0 : World) (p : List UInt8) (h : Head) (s : Option (Nat × Bool)) (W : World) : Prop :=
  RdS w0 p h false W ∧ match s with
    | none => True
    | some (g, b) => w0.heap.size + 1 < g ∧ HeadAt W g (if b = true then h else Hd.zero)
theorem RfS.call {w0 : World} {p : List UInt8} {h : Head} {s : Option (Nat × Bool)} {W W' : World} (k : RfS w0 p h s W) (hb : Below W.heap.size W W') : RfS w0 p h s W' := by
  refine ⟨RdS.call k.1 hb, ?_⟩
  match s, k with
  | none, _ => trivial
  | some (g, b), k => exact ⟨k.2.1, k.2.2.below hb k.2.2.lt⟩
theorem RfS.alloc {w0 : World} {p : List UInt8} {h : Head} {W : World} (k : RdS w0 p h false W) : RfS w0 p h (some (W.heap.size, false)) (W.alloc (.cells #[.int .i64 0, .bool false, .int .i64 0, .int .u32 0] 26)) :=
  ⟨⟨k.page.alloc _, k.res.alloc _, k.below.alloc k.below.size _⟩, k.res.lt, headAt_new W Hd.zero 26⟩
theorem RfS.put {w0 : World} {p : List UInt8} {h : Head} {g : Nat} {b : Bool} {W : World} (k : RfS w0 p h (some (g, b)) W) : RfS w0 p h (some (g, true)) (W.setCells g 0 (headVals h)) := by
  obtain ⟨k1, k2, k3⟩ := k
  exact ⟨⟨k1.page.put_other _ _ _ (by omega), k1.res.put_other _ _ _ (by omega), below_setCells _ (by omega) _ _ _ k1.below⟩, k2, k3.put h⟩
theorem RdS.back {w0 : World} {p : List UInt8} {h : Head} {W : World} (k : RdS w0 p h false W) (g : Head) : HeadAt (W.setCells (w0.heap.size + 1) 0 (headVals g)) (w0.heap.size + 1) g ∧ Below w0.heap.size w0 (W.setCells (w0.heap.size + 1) 0 (headVals g)) :=
  ⟨k.res.put g, below_setCells _ (by omega) _ _ _ k.below⟩

set_option maxHeartbeats 2000000 in
theorem refRead_ends (p : List UInt8) (w : World) (hp : p.length = 64) (hne : Pg.getN p 0 4 ≠ Pg.getN p 60 4) :
    Calls Try.prog 13 #[pageV p] w fun e w' => e = .returned (.tuple #[headV Hd.zero, .bool false]) ∧ Below w.heap.size w w' := by
  have G0 := Lib.hid (fun (w : World) => refGet_any p 0 4 w hp)
  have G6 := Lib.hid (fun (w : World) => refGet_any p 60 4 w hp)
  have HS := Lib.hid (rdS_boxr w p (Hd.readH p) hp)
  clear hp
  generalize Hd.readH p = h at HS
  generalize Pg.getN p 0 4 = g0 at G0 hne
  generalize Pg.getN p 60 4 = g6 at G6 hne
  unfold pageV
  go_enter Try.func13, Try.ntmps13
  go_wp2_with fail
  refine wp_region_lin (fun (_ : Unit) => RdS w p h false) (fun _ => false) (fun i => [pageV p, .int .i64 g0, pageV p, .int .i64 g6, .bool true, .bool true, undef, undef, undef, .bool true].getD i undef) (()) (by kernel_rfl) (by kernel_rfl) (HS.out.drew) ?_
  refine lin_step (i := 0) (d := some 6) (v := pageV p) rfl rfl (by kernel_rfl) (by kernel_rfl) rfl rfl (ord_page (by kernel_rfl) (.tmp 1) rfl rfl (fun _ _ hS => hS.page)) ?_
  (try simp only [Act.put, List.setIfInBounds_toArray, List.set_cons_zero, List.set_cons_succ])
  refine lin_step (i := 1) (d := some 7) (v := .int .i64 g0) rfl rfl (by kernel_rfl) (by kernel_rfl) rfl rfl (ord_call (f := 19) (args := #[pageV p, .int .i64 0, .int .i64 4]) (by kernel_rfl) ?_ (fun _ _ hS => (G0.out _).mono fun _ _ ⟨he, hb⟩ => ⟨he, RdS.call hS hb⟩)) ?_
  · intro _; go_simp
  (try simp only [Act.put, List.setIfInBounds_toArray, List.set_cons_zero, List.set_cons_succ])
  refine lin_step (i := 2) (d := some 8) (v := pageV p) rfl rfl (by kernel_rfl) (by kernel_rfl) rfl rfl (ord_page (by kernel_rfl) (.tmp 1) rfl rfl (fun _ _ hS => hS.page)) ?_
  (try simp only [Act.put, List.setIfInBounds_toArray, List.set_cons_zero, List.set_cons_succ])
  refine lin_step (i := 3) (d := some 9) (v := .int .i64 g6) rfl rfl (by kernel_rfl) (by kernel_rfl) rfl rfl (ord_call (f := 19) (args := #[pageV p, .int .i64 60, .int .i64 4]) (by kernel_rfl) ?_ (fun _ _ hS => (G6.out _).mono fun _ _ ⟨he, hb⟩ => ⟨he, RdS.call hS hb⟩)) ?_
  · intro _; go_simp
  (try simp only [Act.put, List.setIfInBounds_toArray, List.set_cons_zero, List.set_cons_succ])
  refine lin_step (i := 4) (d := some 10) (v := .bool true) rfl rfl (by kernel_rfl) (by kernel_rfl) rfl rfl (ord_value (by kernel_rfl) ?_) ?_
  · intro _ _ _; go_simp
  (try simp only [Act.put, List.setIfInBounds_toArray, List.set_cons_zero, List.set_cons_succ])
  refine lin_step (i := 5) (d := some 11) (v := .bool true) rfl rfl (by kernel_rfl) (by kernel_rfl) rfl rfl (ord_value (by kernel_rfl) ?_) ?_
  · intro _ _ _; go_simp
  (try simp only [Act.put, List.setIfInBounds_toArray, List.set_cons_zero, List.set_cons_succ])
  refine lin_step (i := 6) (d := some 12) (v := undef) rfl rfl (by kernel_rfl) (by kernel_rfl) rfl rfl (ord_skip (by kernel_rfl)) ?_
  (try simp only [Act.put, List.setIfInBounds_toArray, List.set_cons_zero, List.set_cons_succ])
  refine lin_step (i := 7) (d := some 13) (v := undef) rfl rfl (by kernel_rfl) (by kernel_rfl) rfl rfl (ord_skip (by kernel_rfl)) ?_
  (try simp only [Act.put, List.setIfInBounds_toArray, List.set_cons_zero, List.set_cons_succ])
  refine lin_step (i := 8) (d := some 14) (v := undef) rfl rfl (by kernel_rfl) (by kernel_rfl) rfl rfl (ord_skip (by kernel_rfl)) ?_
  (try simp only [Act.put, List.setIfInBounds_toArray, List.set_cons_zero, List.set_cons_succ])
  refine lin_step (i := 9) (d := some 15) (v := .bool true) rfl rfl (by kernel_rfl) (by kernel_rfl) rfl rfl (ord_value (by kernel_rfl) ?_) ?_
  · intro _ _ _; go_simp
  (try simp only [Act.put, List.setIfInBounds_toArray, List.set_cons_zero, List.set_cons_succ])
  refine lin_done (by kernel_rfl) ?_
  intro W1 hS
  have S1 := Lib.hid hS
  clear hS HS G0 G6
  go_wp2_with ((with_reducible refine wpList_store_head refT (h := Hd.zero) (RdS.res S1.out) rfl (.tmp 2) (.tmp 16) rfl rfl ?_ ?_); (exact rfl))
  exact bodyPost_ret (results_head2 refT _ 2 3 rfl _ (RdS.back S1.out Hd.zero).1 rfl rfl) rfl ⟨rfl, (RdS.back S1.out Hd.zero).2⟩

theorem flag_cell {p : List UInt8} {W : World} {b : Nat} (h : PageAt W b p) : W.cell? ⟨b, 4, none⟩ = some (.int .u8 ((p.getD 4 0).toNat : Int)) := h.cell 4 (by omega)

set_option maxHeartbeats 2000000 in
theorem refRead_flag (p : List UInt8) (w : World) (hp : p.length = 64) (he : Pg.getN p 0 4 = Pg.getN p 60 4) (hf : 1 < (p.getD 4 0).toNat) :
    Calls Try.prog 13 #[pageV p] w fun e w' => e = .returned (.tuple #[headV Hd.zero, .bool false]) ∧ Below w.heap.size w w' := by
  have G0 := Lib.hid (fun (w : World) => refGet_any p 0 4 w hp)
  have G6 := Lib.hid (fun (w : World) => refGet_any p 60 4 w hp)
  have HS := Lib.hid (rdS_boxr w p (Hd.readH p) hp)
  have HC4 := Lib.hid (fun (W : World) (h : PageAt W w.heap.size p) => flag_cell h)
  have hf' : (1 : Int) < ((p.getD 4 0).toNat : Int) := by omega
  rw [← he] at G6
  clear hp he hf
  generalize Hd.readH p = h at HS
  generalize Pg.getN p 0 4 = g0 at G0 G6
  generalize ((p.getD 4 0).toNat : Int) = c4 at HC4 hf'
  unfold pageV
  go_enter Try.func13, Try.ntmps13
  go_wp2_with fail
  refine wp_region_lin (fun (_ : Unit) => RdS w p h false) (fun _ => false) (fun i => [pageV p, .int .i64 g0, pageV p, .int .i64 g0, .bool false, .bool false, .pointer (some ⟨w.heap.size, 4, none⟩), .int .u8 c4, .bool true, .bool true].getD i undef) (()) (by kernel_rfl) (by kernel_rfl) (HS.out.drew) ?_
  refine lin_step (i := 0) (d := some 6) (v := pageV p) rfl rfl (by kernel_rfl) (by kernel_rfl) rfl rfl (ord_page (by kernel_rfl) (.tmp 1) rfl rfl (fun _ _ hS => hS.page)) ?_
  (try simp only [Act.put, List.setIfInBounds_toArray, List.set_cons_zero, List.set_cons_succ])
  refine lin_step (i := 1) (d := some 7) (v := .int .i64 g0) rfl rfl (by kernel_rfl) (by kernel_rfl) rfl rfl (ord_call (f := 19) (args := #[pageV p, .int .i64 0, .int .i64 4]) (by kernel_rfl) ?_ (fun _ _ hS => (G0.out _).mono fun _ _ ⟨he, hb⟩ => ⟨he, RdS.call hS hb⟩)) ?_
  · intro _; go_simp
  (try simp only [Act.put, List.setIfInBounds_toArray, List.set_cons_zero, List.set_cons_succ])
  refine lin_step (i := 2) (d := some 8) (v := pageV p) rfl rfl (by kernel_rfl) (by kernel_rfl) rfl rfl (ord_page (by kernel_rfl) (.tmp 1) rfl rfl (fun _ _ hS => hS.page)) ?_
  (try simp only [Act.put, List.setIfInBounds_toArray, List.set_cons_zero, List.set_cons_succ])
  refine lin_step (i := 3) (d := some 9) (v := .int .i64 g0) rfl rfl (by kernel_rfl) (by kernel_rfl) rfl rfl (ord_call (f := 19) (args := #[pageV p, .int .i64 60, .int .i64 4]) (by kernel_rfl) ?_ (fun _ _ hS => (G6.out _).mono fun _ _ ⟨he, hb⟩ => ⟨he, RdS.call hS hb⟩)) ?_
  · intro _; go_simp
  (try simp only [Act.put, List.setIfInBounds_toArray, List.set_cons_zero, List.set_cons_succ])
  refine lin_step (i := 4) (d := some 10) (v := .bool false) rfl rfl (by kernel_rfl) (by kernel_rfl) rfl rfl (ord_value (by kernel_rfl) ?_) ?_
  · intro _ _ _; go_simp
  (try simp only [Act.put, List.setIfInBounds_toArray, List.set_cons_zero, List.set_cons_succ])
  refine lin_step (i := 5) (d := some 11) (v := .bool false) rfl rfl (by kernel_rfl) (by kernel_rfl) rfl rfl (ord_value (by kernel_rfl) ?_) ?_
  · intro _ _ _; go_simp
  (try simp only [Act.put, List.setIfInBounds_toArray, List.set_cons_zero, List.set_cons_succ])
  refine lin_step (i := 6) (d := some 12) (v := .pointer (some ⟨w.heap.size, 4, none⟩)) rfl rfl (by kernel_rfl) (by kernel_rfl) rfl rfl (ord_value (by kernel_rfl) ?_) ?_
  · intro _ _ _; go_simp
  (try simp only [Act.put, List.setIfInBounds_toArray, List.set_cons_zero, List.set_cons_succ])
  refine lin_step (i := 7) (d := some 13) (v := .int .u8 c4) rfl rfl (by kernel_rfl) (by kernel_rfl) rfl rfl (ord_value (by kernel_rfl) ?_) ?_
  · intro _ W hS; have hc := HC4.out W hS.page; go_simp
  (try simp only [Act.put, List.setIfInBounds_toArray, List.set_cons_zero, List.set_cons_succ])
  refine lin_step (i := 8) (d := some 14) (v := .bool true) rfl rfl (by kernel_rfl) (by kernel_rfl) rfl rfl (ord_value (by kernel_rfl) ?_) ?_
  · intro _ _ _; go_simp
  (try simp only [Act.put, List.setIfInBounds_toArray, List.set_cons_zero, List.set_cons_succ])
  refine lin_step (i := 9) (d := some 15) (v := .bool true) rfl rfl (by kernel_rfl) (by kernel_rfl) rfl rfl (ord_value (by kernel_rfl) ?_) ?_
  · intro _ _ _; go_simp
  (try simp only [Act.put, List.setIfInBounds_toArray, List.set_cons_zero, List.set_cons_succ])
  refine lin_done (by kernel_rfl) ?_
  intro W1 hS
  have S1 := Lib.hid hS
  clear hS HS G0 G6 HC4
  go_wp2_with ((with_reducible refine wpList_store_head refT (h := Hd.zero) (RdS.res S1.out) rfl (.tmp 2) (.tmp 16) rfl rfl ?_ ?_); (exact rfl))
  exact bodyPost_ret (results_head2 refT _ 2 3 rfl _ (RdS.back S1.out Hd.zero).1 rfl rfl) rfl ⟨rfl, (RdS.back S1.out Hd.zero).2⟩

set_option maxHeartbeats 4000000 in
theorem refRead_rest (p : List UInt8) (w : World) (hp : p.length = 64) (he : Pg.getN p 0 4 = Pg.getN p 60 4) (hf : (p.getD 4 0).toNat ≤ 1) :
    Calls Try.prog 13 #[pageV p] w fun e w' => e = .returned (.tuple #[headV (Hd.decH p), .bool (Hd.wholeB p)]) ∧ Below w.heap.size w w' := by
  have hwi := Hd.whole_iff p hp
  have HN : Hid (∀ k, 11 ≤ k → k < 60 → p.getD k 0 ≠ 0 → Hd.decH p = Hd.zero ∧ Hd.wholeB p = false) := Lib.hid (fun k h1 h2 h3 => by
    have hw : Hd.wholeB p = false := by
      cases hw : Hd.wholeB p with
      | false => rfl
      | true => exact absurd ((hwi.1 hw).2.2.1 k h1 h2) h3
    unfold Hd.decH
    rw [hw]
    exact ⟨rfl, rfl⟩)
  have HY : Hid ((∀ j, 11 ≤ j → j < 60 → p.getD j 0 = 0) → rightB (Hd.readH p) = true → Hd.decH p = Hd.readH p ∧ Hd.wholeB p = true) := Lib.hid (fun h1 h2 => by
    have hw := hwi.2 ⟨he, hf, h1, h2⟩
    unfold Hd.decH
    rw [hw]
    exact ⟨rfl, rfl⟩)
  have HM : Hid (rightB (Hd.readH p) = false → Hd.decH p = Hd.zero ∧ Hd.wholeB p = false) := Lib.hid (fun h2 => by
    have hw : Hd.wholeB p = false := by
      cases hw : Hd.wholeB p with
      | false => rfl
      | true => have := (hwi.1 hw).2.2.2; rw [h2] at this; cases this
    unfold Hd.decH
    rw [hw]
    exact ⟨rfl, rfl⟩)
  have G0 := Lib.hid (fun (w : World) => refGet_any p 0 4 w hp)
  have G5 := Lib.hid (fun (w : World) => refGet_any p 5 2 w hp)
  have G6 := Lib.hid (fun (w : World) => refGet_any p 60 4 w hp)
  have G7 := Lib.hid (fun (w : World) => refGet_any p 7 4 w hp)
  have HS := Lib.hid (rdS_boxr w p (Hd.readH p) hp)
  have HC4 := Lib.hid (fun (W : World) (h : PageAt W w.heap.size p) => flag_cell h)
  have hf' : ¬ (1 : Int) < ((p.getD 4 0).toNat : Int) := by omega
  have HB : Hid (headV ⟨Pg.getN p 0 4, ((p.getD 4 0).toNat : Int) == 1, Pg.getN p 5 2, Pg.getN p 7 4⟩ = headV (Hd.readH p)) := Lib.hid (by rw [Hd.flag_get p hp]; rfl)
  obtain ⟨_, _, _, _, k0, k1⟩ := Hd.read_bd p hp
  change 0 ≤ Pg.getN p 7 4 at k0
  change Pg.getN p 7 4 < 4294967296 at k1
  rw [← he] at G6
  clear hp he hf hwi
  generalize Hd.decH p = D at HN HY HM ⊢
  generalize Hd.wholeB p = F at HN HY HM ⊢
  generalize Hd.readH p = h at HS HY HM HB
  generalize Pg.getN p 0 4 = g0 at G0 G6 HB
  generalize Pg.getN p 5 2 = g5 at G5 HB
  generalize Pg.getN p 7 4 = g7 at G7 HB k0 k1
  generalize ((p.getD 4 0).toNat : Int) = c4 at HC4 hf' HB
  unfold headV at HB
  unfold pageV
  go_enter Try.func13, Try.ntmps13
  go_wp2_with fail
  refine wp_region_lin (fun (_ : Unit) => RdS w p h false) (fun _ => false) (fun i => [pageV p, .int .i64 g0, pageV p, .int .i64 g0, .bool false, .bool false, .pointer (some ⟨w.heap.size, 4, none⟩), .int .u8 c4, .bool false, .bool false].getD i undef) (()) (by kernel_rfl) (by kernel_rfl) (HS.out.drew) ?_
  refine lin_step (i := 0) (d := some 6) (v := pageV p) rfl rfl (by kernel_rfl) (by kernel_rfl) rfl rfl (ord_page (by kernel_rfl) (.tmp 1) rfl rfl (fun _ _ hS => hS.page)) ?_
  (try simp only [Act.put, List.setIfInBounds_toArray, List.set_cons_zero, List.set_cons_succ])
  refine lin_step (i := 1) (d := some 7) (v := .int .i64 g0) rfl rfl (by kernel_rfl) (by kernel_rfl) rfl rfl (ord_call (f := 19) (args := #[pageV p, .int .i64 0, .int .i64 4]) (by kernel_rfl) ?_ (fun _ _ hS => (G0.out _).mono fun _ _ ⟨he, hb⟩ => ⟨he, RdS.call hS hb⟩)) ?_
  · intro _; go_simp
  (try simp only [Act.put, List.setIfInBounds_toArray, List.set_cons_zero, List.set_cons_succ])
  refine lin_step (i := 2) (d := some 8) (v := pageV p) rfl rfl (by kernel_rfl) (by kernel_rfl) rfl rfl (ord_page (by kernel_rfl) (.tmp 1) rfl rfl (fun _ _ hS => hS.page)) ?_
  (try simp only [Act.put, List.setIfInBounds_toArray, List.set_cons_zero, List.set_cons_succ])
  refine lin_step (i := 3) (d := some 9) (v := .int .i64 g0) rfl rfl (by kernel_rfl) (by kernel_rfl) rfl rfl (ord_call (f := 19) (args := #[pageV p, .int .i64 60, .int .i64 4]) (by kernel_rfl) ?_ (fun _ _ hS => (G6.out _).mono fun _ _ ⟨he, hb⟩ => ⟨he, RdS.call hS hb⟩)) ?_
  · intro _; go_simp
  (try simp only [Act.put, List.setIfInBounds_toArray, List.set_cons_zero, List.set_cons_succ])
  refine lin_step (i := 4) (d := some 10) (v := .bool false) rfl rfl (by kernel_rfl) (by kernel_rfl) rfl rfl (ord_value (by kernel_rfl) ?_) ?_
  · intro _ _ _; go_simp
  (try simp only [Act.put, List.setIfInBounds_toArray, List.set_cons_zero, List.set_cons_succ])
  refine lin_step (i := 5) (d := some 11) (v := .bool false) rfl rfl (by kernel_rfl) (by kernel_rfl) rfl rfl (ord_value (by kernel_rfl) ?_) ?_
  · intro _ _ _; go_simp
  (try simp only [Act.put, List.setIfInBounds_toArray, List.set_cons_zero, List.set_cons_succ])
  refine lin_step (i := 6) (d := some 12) (v := .pointer (some ⟨w.heap.size, 4, none⟩)) rfl rfl (by kernel_rfl) (by kernel_rfl) rfl rfl (ord_value (by kernel_rfl) ?_) ?_
  · intro _ _ _; go_simp
  (try simp only [Act.put, List.setIfInBounds_toArray, List.set_cons_zero, List.set_cons_succ])
  refine lin_step (i := 7) (d := some 13) (v := .int .u8 c4) rfl rfl (by kernel_rfl) (by kernel_rfl) rfl rfl (ord_value (by kernel_rfl) ?_) ?_
  · intro _ W hS; have hc := HC4.out W hS.page; go_simp
  (try simp only [Act.put, List.setIfInBounds_toArray, List.set_cons_zero, List.set_cons_succ])
  refine lin_step (i := 8) (d := some 14) (v := .bool false) rfl rfl (by kernel_rfl) (by kernel_rfl) rfl rfl (ord_value (by kernel_rfl) ?_) ?_
  · intro _ _ _; go_simp
  (try simp only [Act.put, List.setIfInBounds_toArray, List.set_cons_zero, List.set_cons_succ])
  refine lin_step (i := 9) (d := some 15) (v := .bool false) rfl rfl (by kernel_rfl) (by kernel_rfl) rfl rfl (ord_value (by kernel_rfl) ?_) ?_
  · intro _ _ _; go_simp
  (try simp only [Act.put, List.setIfInBounds_toArray, List.set_cons_zero, List.set_cons_succ])
  refine lin_done (by kernel_rfl) ?_
  intro W1 hS
  have S1 := Lib.hid hS
  clear hS HS G6 hf'
  go_wp2_with fail
  go_loop [4] (fun i => ∃ k : Nat, 11 ≤ k ∧ k ≤ 60 ∧ i = .int .i64 k ∧ Hid (∀ j, 11 ≤ j → j < k → p.getD j 0 = 0)) (fun i => 60 - (intOf i).toNat)
  case atStart => exact ⟨11, by omega, by omega, rfl, Lib.hid (fun j h1 h2 => by omega)⟩
  case round =>
    obtain ⟨k, hk1, hk2, rfl, HZ⟩ := hrel
    by_cases hlt : k < 60
    · have hc := (RdS.page S1.out).cell k (by omega)
      have hb0 : (0 : Int) ≤ (k : Int) := by omega
      have hb1 : (k : Int) < 64 := by omega
      by_cases hz : p.getD k 0 = 0
      · have HZ2 : Hid (∀ j, 11 ≤ j → j < k + 1 → p.getD j 0 = 0) := Lib.hid (fun j h1 h2 => by
          by_cases e : j = k
          · rw [e]; exact hz
          · exact HZ.out j h1 (by omega))
        rw [hz] at hc
        clear hz
        change W1.cell? ⟨w.heap.size, k, none⟩ = some (.int .u8 0) at hc
        go_wp2_with fail
        go_round
        case rel => exact ⟨k + 1, by omega, by omega, by go_num, HZ2⟩
        case measure => simp [intOf]; omega
      · have HD := Lib.hid (HN.out k hk1 hlt hz)
        have hnz : ((p.getD k 0).toNat : Int) ≠ 0 := fun e => hz (UInt8.toNat_inj.1 (by have : (p.getD k 0).toNat = 0 := by omega
                                                                                        rw [this]; rfl))
        clear hz
        generalize ((p.getD k 0).toNat : Int) = ck at hc hnz
        go_wp2_with ((with_reducible refine wpList_store_head refT (h := Hd.zero) (RdS.res S1.out) rfl (.tmp 2) (.tmp 25) rfl rfl ?_ ?_); (exact rfl))
        exact bodyPost_ret (results_head2 refT _ 2 3 rfl _ (RdS.back S1.out Hd.zero).1 rfl rfl) rfl ⟨by rw [HD.out.1, HD.out.2]; rfl, (RdS.back S1.out Hd.zero).2⟩
    · obtain rfl : k = 60 := by omega
      go_wp2_with fail
      refine wp_region_lin (RfS w p h) (fun i => i == 11 || i == 12) (fun i => [pageV p, .int .i64 g0, .pointer (some ⟨w.heap.size, 4, none⟩), .int .u8 c4, .bool (c4 == 1), pageV p, .int .i64 g5, pageV p, .int .i64 g7, .int .u32 g7, headV h].getD i undef) (none) (by kernel_rfl) (by kernel_rfl) (⟨RdS.drew S1.out, trivial⟩) ?_
      refine lin_step (i := 0) (d := some 26) (v := pageV p) rfl rfl (by kernel_rfl) (by kernel_rfl) rfl rfl (ord_page (by kernel_rfl) (.tmp 1) rfl rfl (fun _ _ hS => hS.1.page)) ?_
      (try simp only [Act.put, List.setIfInBounds_toArray, List.set_cons_zero, List.set_cons_succ])
      refine lin_step (i := 1) (d := some 27) (v := .int .i64 g0) rfl rfl (by kernel_rfl) (by kernel_rfl) rfl rfl (ord_call (f := 19) (args := #[pageV p, .int .i64 0, .int .i64 4]) (by kernel_rfl) ?_ (fun _ _ hS => (G0.out _).mono fun _ _ ⟨he, hb⟩ => ⟨he, RfS.call hS hb⟩)) ?_
      · intro _; go_simp
      (try simp only [Act.put, List.setIfInBounds_toArray, List.set_cons_zero, List.set_cons_succ])
      refine lin_step (i := 2) (d := some 28) (v := .pointer (some ⟨w.heap.size, 4, none⟩)) rfl rfl (by kernel_rfl) (by kernel_rfl) rfl rfl (ord_value (by kernel_rfl) ?_) ?_
      · intro _ _ _; go_simp
      (try simp only [Act.put, List.setIfInBounds_toArray, List.set_cons_zero, List.set_cons_succ])
      refine lin_step (i := 3) (d := some 29) (v := .int .u8 c4) rfl rfl (by kernel_rfl) (by kernel_rfl) rfl rfl (ord_value (by kernel_rfl) ?_) ?_
      · intro _ W hS; have hc := HC4.out W hS.1.page; go_simp
      (try simp only [Act.put, List.setIfInBounds_toArray, List.set_cons_zero, List.set_cons_succ])
      refine lin_step (i := 4) (d := some 30) (v := .bool (c4 == 1)) rfl rfl (by kernel_rfl) (by kernel_rfl) rfl rfl (ord_value (by kernel_rfl) ?_) ?_
      · intro _ _ _; go_simp
      (try simp only [Act.put, List.setIfInBounds_toArray, List.set_cons_zero, List.set_cons_succ])
      refine lin_step (i := 5) (d := some 31) (v := pageV p) rfl rfl (by kernel_rfl) (by kernel_rfl) rfl rfl (ord_page (by kernel_rfl) (.tmp 1) rfl rfl (fun _ _ hS => hS.1.page)) ?_
      (try simp only [Act.put, List.setIfInBounds_toArray, List.set_cons_zero, List.set_cons_succ])
      refine lin_step (i := 6) (d := some 32) (v := .int .i64 g5) rfl rfl (by kernel_rfl) (by kernel_rfl) rfl rfl (ord_call (f := 19) (args := #[pageV p, .int .i64 5, .int .i64 2]) (by kernel_rfl) ?_ (fun _ _ hS => (G5.out _).mono fun _ _ ⟨he, hb⟩ => ⟨he, RfS.call hS hb⟩)) ?_
      · intro _; go_simp
      (try simp only [Act.put, List.setIfInBounds_toArray, List.set_cons_zero, List.set_cons_succ])
      refine lin_step (i := 7) (d := some 33) (v := pageV p) rfl rfl (by kernel_rfl) (by kernel_rfl) rfl rfl (ord_page (by kernel_rfl) (.tmp 1) rfl rfl (fun _ _ hS => hS.1.page)) ?_
      (try simp only [Act.put, List.setIfInBounds_toArray, List.set_cons_zero, List.set_cons_succ])
      refine lin_step (i := 8) (d := some 34) (v := .int .i64 g7) rfl rfl (by kernel_rfl) (by kernel_rfl) rfl rfl (ord_call (f := 19) (args := #[pageV p, .int .i64 7, .int .i64 4]) (by kernel_rfl) ?_ (fun _ _ hS => (G7.out _).mono fun _ _ ⟨he, hb⟩ => ⟨he, RfS.call hS hb⟩)) ?_
      · intro _; go_simp
      (try simp only [Act.put, List.setIfInBounds_toArray, List.set_cons_zero, List.set_cons_succ])
      refine lin_step (i := 9) (d := some 35) (v := .int .u32 g7) rfl rfl (by kernel_rfl) (by kernel_rfl) rfl rfl (ord_value (by kernel_rfl) ?_) ?_
      · intro _ _ _; go_simp; exact wrap_u32_in _ k0 k1
      (try simp only [Act.put, List.setIfInBounds_toArray, List.set_cons_zero, List.set_cons_succ])
      refine lin_step (i := 10) (d := some 36) (v := headV h) rfl rfl (by kernel_rfl) (by kernel_rfl) rfl rfl (ord_value (by kernel_rfl) ?_) ?_
      · intro _ _ _; go_simp; exact HB.out
      (try simp only [Act.put, List.setIfInBounds_toArray, List.set_cons_zero, List.set_cons_succ])
      refine lin_turn (i := 11) (d := some 5) (fun u s => ∃ g, w.heap.size + 1 < g ∧ u = .pointer (some ⟨g, 0, none⟩) ∧ s = some (g, false)) rfl rfl (by kernel_rfl) (by kernel_rfl) rfl (by kernel_rfl) (⟨_, _, w.heap.size + 2, by omega, rfl, rfl⟩) (by kernel_rfl) (fun W hS => gives_to (v := .pointer (some ⟨W.heap.size, 0, none⟩)) (w' := W.alloc (.cells #[.int .i64 0, .bool false, .int .i64 0, .int .u32 0] 26)) (by go_simp) ⟨some (W.heap.size, false), ⟨W.heap.size, hS.1.res.lt, rfl, rfl⟩, RfS.alloc hS.1⟩) ?_
      rintro _ _ ⟨g, hg, rfl, rfl⟩
      (try simp only [Act.put, List.setIfInBounds_toArray, List.set_cons_zero, List.set_cons_succ])
      refine lin_turn (i := 12) (d := none) (fun u s => u = undef ∧ s = some (g, true)) rfl rfl (by kernel_rfl) (by kernel_rfl) rfl (by kernel_rfl) (⟨_, _, rfl, rfl⟩) (by kernel_rfl) (fun W hS => gives_store_head refT hS.2.2 (.tmp 5) (.tmp 36) rfl rfl rfl ⟨some (g, true), ⟨rfl, rfl⟩, RfS.put hS⟩) ?_
      rintro _ _ ⟨rfl, rfl⟩
      (try simp only [Act.put, List.setIfInBounds_toArray, List.set_cons_zero, List.set_cons_succ])
      refine lin_done (by kernel_rfl) ?_
      intro W2 hS
      have S2 : Hid (RdS w p h false W2) := Lib.hid hS.1
      have H2 : Hid (HeadAt W2 g h) := Lib.hid hS.2.2
      clear hS S1 G0 G5 G7 HC4 HB
      go_wp2_with (with_reducible refine wpList_load_head refT H2.out rfl (.tmp 5) rfl rfl ?_)
      cases hr : rightB h with
      | true =>
        have HD := Lib.hid (HY.out HZ.out hr)
        refine (refRight_yes h _ hr).mono ?_
        rintro e w3 ⟨rfl, hb3⟩
        have S3 := Lib.hid (RdS.call S2.out hb3)
        have H3 := Lib.hid (H2.out.below hb3 H2.out.lt)
        clear S2 H2 hb3 hr HY HM HN
        go_wp2_with (first
          | ((with_reducible refine wpList_load_head refT H3.out rfl (.tmp 5) rfl rfl ?_))
          | ((with_reducible refine wpList_store_head refT (h := h) (RdS.res S3.out) rfl (.tmp 2) (.tmp 41) rfl rfl ?_ ?_); (exact rfl)))
        exact bodyPost_ret (results_head2 refT _ 2 3 rfl _ (RdS.back S3.out h).1 rfl rfl) rfl ⟨by rw [HD.out.1, HD.out.2]; rfl, (RdS.back S3.out h).2⟩
      | false =>
        have HD := Lib.hid (HM.out hr)
        refine (refRight_no h _ hr).mono ?_
        rintro e w3 ⟨rfl, hb3⟩
        have S3 := Lib.hid (RdS.call S2.out hb3)
        have H3 := Lib.hid (H2.out.below hb3 H2.out.lt)
        clear S2 H2 hb3 hr HY HM HN
        go_wp2_with ((with_reducible refine wpList_store_head refT (h := Hd.zero) (RdS.res S3.out) rfl (.tmp 2) (.tmp 40) rfl rfl ?_ ?_); (exact rfl))
        exact bodyPost_ret (results_head2 refT _ 2 3 rfl _ (RdS.back S3.out Hd.zero).1 rfl rfl) rfl ⟨by rw [HD.out.1, HD.out.2]; rfl, (RdS.back S3.out Hd.zero).2⟩

theorem refRead_any (p : List UInt8) (w : World) (hp : p.length = 64) :
    Calls Try.prog 13 #[pageV p] w fun e w' => e = .returned (.tuple #[headV (Hd.decH p), .bool (Hd.wholeB p)]) ∧ Below w.heap.size w w' := by
  have hwi := Hd.whole_iff p hp
  by_cases he : Pg.getN p 0 4 = Pg.getN p 60 4
  · by_cases hf : (p.getD 4 0).toNat ≤ 1
    · exact refRead_rest p w hp he hf
    · have hw : Hd.wholeB p = false := by
        cases hw : Hd.wholeB p with
        | false => rfl
        | true => exact absurd (hwi.1 hw).2.1 hf
      unfold Hd.decH
      rw [hw]
      exact refRead_flag p w hp he (by omega)
  · have hw : Hd.wholeB p = false := by
      cases hw : Hd.wholeB p with
      | false => rfl
      | true => exact absurd (hwi.1 hw).1 he
    unfold Hd.decH
    rw [hw]
    exact refRead_ends p w hp he
end Go.Proofs.Ytlbadfeobpnlcaa
