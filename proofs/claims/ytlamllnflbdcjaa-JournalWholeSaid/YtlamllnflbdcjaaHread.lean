/-
  The contract of head.read.
-/
import Derived.Test.YtlamllnflbdcjaaHmem
namespace Go.Proofs.Ytlamllnflbdcjaa
open Go.RowKit
open Dk (zeros zeros_length)
open Hd (Head rightB pageH)

/-- what stands in memory while a page is read: the page; the head that is handed back, as it was made or as it is told -/
structure RdS (w0 : World) (p : List UInt8) (h : Head) (b : Bool) (W : World) : Prop where
  page : PageAt W w0.heap.size p
  res : HeadAt W (w0.heap.size + 1) (if b = true then h else Hd.zero)
  below : Below w0.heap.size w0 W
theorem RdS.call {w0 : World} {p : List UInt8} {h : Head} {b : Bool} {W W' : World} (k : RdS w0 p h b W) (hb : Below W.heap.size W W') : RdS w0 p h b W' :=
  ⟨k.page.below hb k.page.lt, k.res.below hb k.res.lt, k.below.trans (hb.mono k.below.size)⟩
theorem RdS.put {w0 : World} {p : List UInt8} {h : Head} {b : Bool} {W : World} (k : RdS w0 p h b W) : RdS w0 p h true (W.setCells (w0.heap.size + 1) 0 (headVals h)) :=
  ⟨k.page.put_other _ _ _ (by omega), k.res.put h, below_setCells _ (by omega) _ _ _ k.below⟩
theorem rdS_start (w : World) (p : List UInt8) (h : Head) (hp : p.length = 64) : RdS w p h false ((w.alloc (.cells (byteVals p).toArray 31)).alloc (.cells #[.int .i64 0, .bool false, .int .i64 0, .int .u32 0] 73)).drew where
  page := ((pageAt_new w p _ hp).alloc _).drew
  res := by
    have := headAt_new (w.alloc (.cells (byteVals p).toArray 31)) Hd.zero 73
    have e : (w.alloc (.cells (byteVals p).toArray 31)).heap.size = w.heap.size + 1 := by simp
    rw [e] at this
    exact this.drew
  below := (((Below.refl _ _).alloc (Nat.le_refl _) _).alloc (by simp) _).drew

theorem wrap_u32_in (v : Int) (h0 : 0 ≤ v) (h1 : v < 4294967296) : IntKind.u32.wrap v = v := by
  have e : IntKind.u32.wrap v = v % 4294967296 := by simp [IntKind.wrap, IntKind.bits, IntKind.signed]
  rw [e]; omega
set_option maxRecDepth 100000 in
set_option maxHeartbeats 1000000 in
theorem hread_any (p : List UInt8) (w : World) (hp : p.length = 64) :
    Calls Try.prog 33 #[pageV p] w fun e w' => e = .returned (headV (Hd.readH p)) ∧ Below w.heap.size w w' := by
  have G0 := Lib.hid (fun (w : World) => get_any p 0 4 w hp (by omega) (by omega))
  have G4 := Lib.hid (fun (w : World) => get_any p 4 1 w hp (by omega) (by omega))
  have G5 := Lib.hid (fun (w : World) => get_any p 5 2 w hp (by omega) (by omega))
  have G7 := Lib.hid (fun (w : World) => get_any p 7 4 w hp (by omega) (by omega))
  have hbd := Hd.read_bd p hp
  have HB : Hid (headV ⟨Pg.getN p 0 4, Pg.getN p 4 1 == 1, Pg.getN p 5 2, Pg.getN p 7 4⟩ = headV (Hd.readH p)) := Lib.hid rfl
  obtain ⟨_, _, _, _, k0, k1⟩ := hbd
  change 0 ≤ Pg.getN p 7 4 at k0
  change Pg.getN p 7 4 < 4294967296 at k1
  have HS := Lib.hid (rdS_start w p (Hd.readH p) hp)
  clear hp
  generalize Hd.readH p = h at HB HS ⊢
  generalize Pg.getN p 0 4 = g0 at G0 HB
  generalize Pg.getN p 4 1 = g4 at G4 HB
  generalize Pg.getN p 5 2 = g5 at G5 HB
  generalize Pg.getN p 7 4 = g7 at G7 HB k0 k1
  unfold headV at HB
  unfold pageV
  go_enter Try.func33, Try.ntmps33
  go_wp2_with fail
  refine wp_region_lin (RdS w p h) (fun i => i == 11) (fun i => [pageV p, .int .i64 g0, pageV p, .int .i64 g4, .bool (g4 == 1), pageV p, .int .i64 g5, pageV p, .int .i64 g7, .int .u32 g7, headV h].getD i undef) (false) (by kernel_rfl) (by kernel_rfl) (HS.out) ?_
  refine lin_step (i := 0) (d := some 3) (v := pageV p) rfl rfl (by kernel_rfl) (by kernel_rfl) rfl rfl (ord_page (by kernel_rfl) (.tmp 1) rfl rfl (fun _ _ hS => hS.page)) ?_
  (try simp only [Act.put, List.setIfInBounds_toArray, List.set_cons_zero, List.set_cons_succ])
  refine lin_step (i := 1) (d := some 4) (v := .int .i64 g0) rfl rfl (by kernel_rfl) (by kernel_rfl) rfl rfl (ord_call (f := 35) (args := #[pageV p, .int .i64 0, .int .i64 4]) (by kernel_rfl) ?_ (fun _ _ hS => (G0.out _).mono fun _ _ ⟨he, hb⟩ => ⟨he, hS.call hb⟩)) ?_
  · intro _; go_simp
  (try simp only [Act.put, List.setIfInBounds_toArray, List.set_cons_zero, List.set_cons_succ])
  refine lin_step (i := 2) (d := some 5) (v := pageV p) rfl rfl (by kernel_rfl) (by kernel_rfl) rfl rfl (ord_page (by kernel_rfl) (.tmp 1) rfl rfl (fun _ _ hS => hS.page)) ?_
  (try simp only [Act.put, List.setIfInBounds_toArray, List.set_cons_zero, List.set_cons_succ])
  refine lin_step (i := 3) (d := some 6) (v := .int .i64 g4) rfl rfl (by kernel_rfl) (by kernel_rfl) rfl rfl (ord_call (f := 35) (args := #[pageV p, .int .i64 4, .int .i64 1]) (by kernel_rfl) ?_ (fun _ _ hS => (G4.out _).mono fun _ _ ⟨he, hb⟩ => ⟨he, hS.call hb⟩)) ?_
  · intro _; go_simp
  (try simp only [Act.put, List.setIfInBounds_toArray, List.set_cons_zero, List.set_cons_succ])
  refine lin_step (i := 4) (d := some 7) (v := .bool (g4 == 1)) rfl rfl (by kernel_rfl) (by kernel_rfl) rfl rfl (ord_value (by kernel_rfl) ?_) ?_
  · intro _ _ _; go_simp
  (try simp only [Act.put, List.setIfInBounds_toArray, List.set_cons_zero, List.set_cons_succ])
  refine lin_step (i := 5) (d := some 8) (v := pageV p) rfl rfl (by kernel_rfl) (by kernel_rfl) rfl rfl (ord_page (by kernel_rfl) (.tmp 1) rfl rfl (fun _ _ hS => hS.page)) ?_
  (try simp only [Act.put, List.setIfInBounds_toArray, List.set_cons_zero, List.set_cons_succ])
  refine lin_step (i := 6) (d := some 9) (v := .int .i64 g5) rfl rfl (by kernel_rfl) (by kernel_rfl) rfl rfl (ord_call (f := 35) (args := #[pageV p, .int .i64 5, .int .i64 2]) (by kernel_rfl) ?_ (fun _ _ hS => (G5.out _).mono fun _ _ ⟨he, hb⟩ => ⟨he, hS.call hb⟩)) ?_
  · intro _; go_simp
  (try simp only [Act.put, List.setIfInBounds_toArray, List.set_cons_zero, List.set_cons_succ])
  refine lin_step (i := 7) (d := some 10) (v := pageV p) rfl rfl (by kernel_rfl) (by kernel_rfl) rfl rfl (ord_page (by kernel_rfl) (.tmp 1) rfl rfl (fun _ _ hS => hS.page)) ?_
  (try simp only [Act.put, List.setIfInBounds_toArray, List.set_cons_zero, List.set_cons_succ])
  refine lin_step (i := 8) (d := some 11) (v := .int .i64 g7) rfl rfl (by kernel_rfl) (by kernel_rfl) rfl rfl (ord_call (f := 35) (args := #[pageV p, .int .i64 7, .int .i64 4]) (by kernel_rfl) ?_ (fun _ _ hS => (G7.out _).mono fun _ _ ⟨he, hb⟩ => ⟨he, hS.call hb⟩)) ?_
  · intro _; go_simp
  (try simp only [Act.put, List.setIfInBounds_toArray, List.set_cons_zero, List.set_cons_succ])
  refine lin_step (i := 9) (d := some 12) (v := .int .u32 g7) rfl rfl (by kernel_rfl) (by kernel_rfl) rfl rfl (ord_value (by kernel_rfl) ?_) ?_
  · intro _ _ _; go_simp; exact wrap_u32_in _ k0 k1
  (try simp only [Act.put, List.setIfInBounds_toArray, List.set_cons_zero, List.set_cons_succ])
  refine lin_step (i := 10) (d := some 13) (v := headV h) rfl rfl (by kernel_rfl) (by kernel_rfl) rfl rfl (ord_value (by kernel_rfl) ?_) ?_
  · intro _ _ _; go_simp; exact HB.out
  (try simp only [Act.put, List.setIfInBounds_toArray, List.set_cons_zero, List.set_cons_succ])
  refine lin_turn (i := 11) (d := none) (fun u s => u = undef ∧ s = true) rfl rfl (by kernel_rfl) (by kernel_rfl) rfl (by kernel_rfl) (⟨_, _, rfl, rfl⟩) (by kernel_rfl) (fun W hS => gives_store_head headT hS.res (.tmp 2) (.tmp 13) rfl rfl rfl ⟨true, ⟨rfl, rfl⟩, hS.put⟩) ?_
  rintro _ _ ⟨rfl, rfl⟩
  (try simp only [Act.put, List.setIfInBounds_toArray, List.set_cons_zero, List.set_cons_succ])
  refine lin_done (by kernel_rfl) ?_
  intro W hS
  go_wp2_with fail
  exact bodyPost_ret (results_head headT _ 2 rfl _ hS.res rfl) rfl ⟨rfl, hS.below⟩
end Go.Proofs.Ytlamllnflbdcjaa
