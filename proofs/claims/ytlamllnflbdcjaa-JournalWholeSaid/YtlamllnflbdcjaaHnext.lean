/-
  The contracts of head.Next and of the document's own Next.
-/
import Derived.Test.YtlamllnflbdcjaaHdec
import Derived.Test.YtlamllnflbdcjaaJrows
import Derived.IntWalk
namespace Go.Proofs.Ytlamllnflbdcjaa
open Go.RowKit
open Dk (zeros zeros_length)
open Hd (Head rightB pageH)

theorem wpList_load_at {ops : Array Oper} {rest : List Oper} {op : Oper} {a : Act} {Q : Exit → Act → World → Prop} {w : World} {b o : Nat} {p : List UInt8} (hr : w.rangeAt b o (byteVals p)) (hp : p.length = 64) (hgd : op.guard = none) (x : Operand) (ho : op.op = .load 31 x)
    (hx : a.eval x = .pointer (some ⟨b, o, none⟩)) (h : wpList Try.prog ops Q rest (a.put op.dst (pageV p)) w) : wpList Try.prog ops Q (op :: rest) a w :=
  wpList_load_mid hgd 31 x ho b o hx (byteVals p) _ hr Try.underlying31 rfl (by rw [page_info, byteVals_length, hp]) h
theorem take_more {α : Type} (l : List α) (k : Nat) (a : α) (h : l[k]? = some a) : l.take (k + 1) = l.take k ++ [a] := by
  obtain ⟨hk, he⟩ := List.getElem?_eq_some_iff.1 h
  rw [List.take_succ_eq_append_getElem hk, he]

/-- what stands in memory in a round: the row, and the page of this round -/
def NxR (w0 : World) (A : Option Addr) (n : Nat) (ps : List (List UInt8)) (W : World) : Prop := PageRow W A n ps ∧ Below w0.heap.size w0 W
theorem NxR.call {w0 : World} {A : Option Addr} {n : Nat} {ps : List (List UInt8)} {W W' : World} (k : NxR w0 A n ps W) (hb : Below W.heap.size W W') : NxR w0 A n ps W' := ⟨k.1.step hb, k.2.trans (hb.mono k.2.size)⟩
theorem PageRow.drew {w : World} {A : Option Addr} {n : Nat} {ps : List (List UInt8)} (h : PageRow w A n ps) : PageRow w.drew A n ps where
  len := h.len
  small := h.small
  size := h.size
  cells := fun hn => by
    obtain ⟨b, off, e, hlt, hc⟩ := h.cells hn
    exact ⟨b, off, e, hlt, fun i p hi => (World.rangeAt_drew ..).2 (hc i p hi)⟩
theorem NxR.drew {w0 : World} {A : Option Addr} {n : Nat} {ps : List (List UInt8)} {W : World} (k : NxR w0 A n ps W) : NxR w0 A n ps W.drew := ⟨k.1.drew, k.2.drew⟩
def NxS (w0 : World) (A : Option Addr) (n : Nat) (ps : List (List UInt8)) (B : Nat) (p : List UInt8) (W : World) : Prop := NxR w0 A n ps W ∧ PageAt W B p
theorem NxS.call {w0 : World} {A : Option Addr} {n : Nat} {ps : List (List UInt8)} {B : Nat} {p : List UInt8} {W W' : World} (k : NxS w0 A n ps B p W) (hb : Below W.heap.size W W') : NxS w0 A n ps B p W' := ⟨NxR.call k.1 hb, k.2.below hb k.2.lt⟩

set_option maxRecDepth 100000 in
set_option maxHeartbeats 2000000 in
theorem next_any (A : Option Addr) (n c : Nat) (ps : List (List UInt8)) (w : World) (hrow : PageRow w A n ps) :
    Calls Try.prog 25 #[.slice A n c] w fun e w' => e = .returned (.int .i64 (Hd.nextN ps)) ∧ Below w.heap.size w w' := by
  have hn := hrow.small
  unfold maxLen at hn
  have HR : Hid (NxR w A n ps w) := Lib.hid ⟨hrow, Below.refl _ _⟩
  have HL := Lib.hid hrow.len
  have HZ := Lib.hid hrow.size
  clear hrow
  go_enter Try.func25, Try.ntmps25
  go_wp2_with fail
  go_loopw [3, 8] (fun x i wr => ∃ k : Nat, k ≤ n ∧ i = .int .i64 k ∧ x = .int .i64 (Hd.nextN (ps.take k)) ∧ NxR w A n ps wr) (fun _ i _ => n - (intOf i).toNat)
  case atStart => exact ⟨0, Nat.zero_le _, rfl, rfl, HR.out⟩
  case round =>
    obtain ⟨k, hk, rfl, rfl, hnx⟩ := hrel
    have HX := Lib.hid hnx
    clear hnx HR
    by_cases hlt : k < n
    · obtain ⟨b, off, rfl, hb, hc⟩ := HX.out.1.cells (by omega)
      obtain ⟨p, hp⟩ : ∃ p, ps[k]? = some p := ⟨_, List.getElem?_eq_getElem (by rw [HL.out]; exact hlt)⟩
      have HP := Lib.hid (hc k p hp)
      have HPL := Lib.hid (HZ.out p (List.mem_of_getElem? hp))
      have HT := Lib.hid (take_more ps k p hp)
      have G0 := Lib.hid (fun (w : World) => get_any p 0 4 w HPL.out (by omega) (by omega))
      have G6 := Lib.hid (fun (w : World) => get_any p 60 4 w HPL.out (by omega) (by omega))
      have hbd := Hd.get_bd p HPL.out
      have HU : Hid (Hd.nextN (ps.take (k + 1)) = max (max (Hd.nextN (ps.take k)) (Pg.getN p 0 4 + 1)) (Pg.getN p 60 4 + 1)) := Lib.hid (by rw [HT.out, Hd.nextN_snoc]; rfl)
      have hx0 := Hd.nextN_nonneg (ps.take k)
      have hx1 := Hd.nextN_top (ps.take k) (fun q hq => HZ.out q (List.mem_of_mem_take hq))
      clear hc hp hb HT
      generalize Hd.nextN (ps.take k) = x at HU hx0 hx1 ⊢
      generalize Pg.getN p 0 4 = g0 at G0 HU hbd
      generalize Pg.getN p 60 4 = g6 at G6 HU hbd
      obtain ⟨b1, b2, b3, b4⟩ := hbd
      have w1 : IntKind.i64.wrap (g0 + 1) = g0 + 1 := IntWalk.i64_in _ (by omega)
      have w2 : IntKind.i64.wrap (g6 + 1) = g6 + 1 := IntWalk.i64_in _ (by omega)
      have hk0 : (0 : Int) ≤ (k : Int) := by omega
      have hk1 : (k : Int) < (n : Int) := by omega
      go_wp2_with (first
        | ((with_reducible refine wpList_load_at HP.out HPL.out rfl (.tmp 10) rfl ?_ ?_); (exact rfl))
        | ((with_reducible refine wpList_store_new rfl (.tmp 5) (.tmp 11) rfl rfl ?_ ?_ HPL.out ?_); (exact rfl); (exact rfl); intro W2 hP hB2 hz2; have S2 : Hid (NxS w (some ⟨b, off, none⟩) n ps wr.heap.size p W2) := Lib.hid ⟨NxR.call HX.out hB2, hP⟩; clear HX hP hB2 hz2; generalize wr.heap.size = B at S2 ⊢))
      obtain ⟨y, hy⟩ : ∃ y, max (max x (g0 + 1)) (g6 + 1) = y := ⟨_, rfl⟩
      have HY := Lib.hid hy
      clear hy
      refine wp_region_lin (fun (_ : Unit) => NxS w (some ⟨b, off, none⟩) n ps B p) (fun _ => false) (fun i => [.int .i64 x, pageV p, .int .i64 g0, .int .i64 (g0 + 1), pageV p, .int .i64 g6, .int .i64 (g6 + 1), .int .i64 y, .int .i64 y].getD i undef) (()) (by kernel_rfl) (by kernel_rfl) (⟨S2.out.1.drew, S2.out.2.drew⟩) ?_
      refine lin_step (i := 0) (d := some 12) (v := .int .i64 x) rfl rfl (by kernel_rfl) (by kernel_rfl) rfl rfl (ord_value (by kernel_rfl) ?_) ?_
      · intro _ _ _; go_simp
      (try simp only [Act.put, List.setIfInBounds_toArray, List.set_cons_zero, List.set_cons_succ])
      refine lin_step (i := 1) (d := some 13) (v := pageV p) rfl rfl (by kernel_rfl) (by kernel_rfl) rfl rfl (ord_page (by kernel_rfl) (.tmp 5) rfl rfl (fun _ _ hS => hS.2)) ?_
      (try simp only [Act.put, List.setIfInBounds_toArray, List.set_cons_zero, List.set_cons_succ])
      refine lin_step (i := 2) (d := some 14) (v := .int .i64 g0) rfl rfl (by kernel_rfl) (by kernel_rfl) rfl rfl (ord_call (f := 35) (args := #[pageV p, .int .i64 0, .int .i64 4]) (by kernel_rfl) ?_ (fun _ _ hS => (G0.out _).mono fun _ _ ⟨he, hb⟩ => ⟨he, NxS.call hS hb⟩)) ?_
      · intro _; go_simp
      (try simp only [Act.put, List.setIfInBounds_toArray, List.set_cons_zero, List.set_cons_succ])
      refine lin_step (i := 3) (d := some 15) (v := .int .i64 (g0 + 1)) rfl rfl (by kernel_rfl) (by kernel_rfl) rfl rfl (ord_value (by kernel_rfl) ?_) ?_
      · intro _ _ _; go_simp
      (try simp only [Act.put, List.setIfInBounds_toArray, List.set_cons_zero, List.set_cons_succ])
      refine lin_step (i := 4) (d := some 16) (v := pageV p) rfl rfl (by kernel_rfl) (by kernel_rfl) rfl rfl (ord_page (by kernel_rfl) (.tmp 5) rfl rfl (fun _ _ hS => hS.2)) ?_
      (try simp only [Act.put, List.setIfInBounds_toArray, List.set_cons_zero, List.set_cons_succ])
      refine lin_step (i := 5) (d := some 17) (v := .int .i64 g6) rfl rfl (by kernel_rfl) (by kernel_rfl) rfl rfl (ord_call (f := 35) (args := #[pageV p, .int .i64 60, .int .i64 4]) (by kernel_rfl) ?_ (fun _ _ hS => (G6.out _).mono fun _ _ ⟨he, hb⟩ => ⟨he, NxS.call hS hb⟩)) ?_
      · intro _; go_simp
      (try simp only [Act.put, List.setIfInBounds_toArray, List.set_cons_zero, List.set_cons_succ])
      refine lin_step (i := 6) (d := some 18) (v := .int .i64 (g6 + 1)) rfl rfl (by kernel_rfl) (by kernel_rfl) rfl rfl (ord_value (by kernel_rfl) ?_) ?_
      · intro _ _ _; go_simp
      (try simp only [Act.put, List.setIfInBounds_toArray, List.set_cons_zero, List.set_cons_succ])
      refine lin_step (i := 7) (d := some 19) (v := .int .i64 y) rfl rfl (by kernel_rfl) (by kernel_rfl) rfl rfl (ord_value (by kernel_rfl) ?_) ?_
      · intro _ _ _; go_simp; (rw [← HY.out]; (repeat' split) <;> omega)
      (try simp only [Act.put, List.setIfInBounds_toArray, List.set_cons_zero, List.set_cons_succ])
      refine lin_step (i := 8) (d := some 3) (v := .int .i64 y) rfl rfl (by kernel_rfl) (by kernel_rfl) rfl rfl (ord_value (by kernel_rfl) ?_) ?_
      · intro _ _ _; go_simp
      (try simp only [Act.put, List.setIfInBounds_toArray, List.set_cons_zero, List.set_cons_succ])
      refine lin_done (by kernel_rfl) ?_
      intro W3 hS
      have S3 := Lib.hid hS
      clear hS S2 w1 w2
      go_wp2_with fail
      go_roundw
      case rel => exact ⟨k + 1, by omega, by go_num, by rw [HU.out, HY.out], S3.out.1⟩
      case measure => simp [intOf]; omega
    · have HK : Hid (ps.take k = ps) := Lib.hid (List.take_of_length_le (by rw [HL.out]; omega))
      go_wp2_with fail
      go_ret
      exact ⟨ret_int (by rw [HK.out]), HX.out.2⟩

section
variable {ops : Array Oper} {σ : Type} {S : σ → World → Prop}
theorem ord_page_at {o : Oper} {a : Act} {b f : Nat} {p : List UInt8} (hw : Region.wanted o (yielded ops a.tmps) = true) (x : Operand) (ho : o.op = .load 31 x) (hx : a.eval x = .pointer (some ⟨b, f, none⟩)) (hp : p.length = 64) (hS : ∀ s w, S s w → w.rangeAt b f (byteVals p)) :
    OrdAt Try.prog ops S o (pageV p) a :=
  ord_value hw fun s w hs => by
    unfold execOp
    have := run_loadVar_mid (P := Try.prog) w b f 31 (byteVals p) _ (hS s w hs) Try.underlying31 rfl (by rw [page_info, byteVals_length, hp])
    rw [pageV_def] at this
    simp only [ho, hx, Instr.loadAt, Instr.sureAddr, Sem.run_bind, Sem.run_pure, Result.andThen_ok, this]
end
end Go.Proofs.Ytlamllnflbdcjaa
