/-
  The document's example: awake returns true.
-/
import Derived.Test.YtchlhnpnenafnaaIput
import Derived.Test.YtchlhnpnenafnaaIget
import Derived.Test.YtchlhnpnenafnaaIopen
namespace Go.Proofs.Ytchlhnpnenafnaa
open Go.RowKit
open Ii (Ino)

/-- the example's inode -/
def exI : Ino := ⟨2, 0, 0, 2, 0, 0, 0, 0, 0, 0, 0⟩
theorem ex_page : ∃ y : List UInt8, y.length = 64 ∧ Ii.putN zeros 32 exI = y ∧ y.getD 32 0 = 2 ∧ y.getD 39 0 = 2 ∧ Ii.getI y 32 = exI ∧ Ii.getI y 0 = Ii.zero := by
  refine ⟨_, Ii.putN_length zeros 32 exI zeros_length (by decide), rfl, ?_, ?_, ?_, ?_⟩
  · rw [show (32 : Int) = ((32 : Nat) : Int) from rfl, Ii.putN_is zeros 32 exI zeros_length (by omega)]; rfl
  · rw [show (32 : Int) = ((32 : Nat) : Int) from rfl, Ii.putN_is zeros 32 exI zeros_length (by omega)]; rfl
  · exact Ii.get_put zeros 32 exI zeros_length (by omega) (by unfold Ii.fitsB exI; decide)
  · have h := Ii.get_other zeros 32 0 exI zeros_length (by omega) (by omega) (by omega)
    have z : Ii.getI zeros ((0 : Nat) : Int) = Ii.zero := by rfl
    exact h.trans z
set_option maxRecDepth 100000 in
set_option maxHeartbeats 1000000 in
theorem awake_any (w : World) : Calls Try.prog 6 #[] w fun e w' => e = .returned (.bool true) ∧ Below w.heap.size w w' := by
  obtain ⟨y, hy, e1, e2, e3, e4, e5⟩ := ex_page
  have H0 : Hid (∀ w, Calls Try.prog 7 #[.agg #[.int .u8 0, .int .u8 0, .int .u8 0, .int .u8 0, .int .u8 0, .int .u8 0, .int .u8 0, .int .u8 0, .int .u8 0, .int .u8 0, .int .u8 0, .int .u8 0, .int .u8 0, .int .u8 0, .int .u8 0, .int .u8 0, .int .u8 0, .int .u8 0, .int .u8 0, .int .u8 0, .int .u8 0, .int .u8 0, .int .u8 0, .int .u8 0, .int .u8 0, .int .u8 0, .int .u8 0, .int .u8 0, .int .u8 0, .int .u8 0, .int .u8 0, .int .u8 0, .int .u8 0, .int .u8 0, .int .u8 0, .int .u8 0, .int .u8 0, .int .u8 0, .int .u8 0, .int .u8 0, .int .u8 0, .int .u8 0, .int .u8 0, .int .u8 0, .int .u8 0, .int .u8 0, .int .u8 0, .int .u8 0, .int .u8 0, .int .u8 0, .int .u8 0, .int .u8 0, .int .u8 0, .int .u8 0, .int .u8 0, .int .u8 0, .int .u8 0, .int .u8 0, .int .u8 0, .int .u8 0, .int .u8 0, .int .u8 0, .int .u8 0, .int .u8 0], .int .i64 1, .agg #[.int .i64 2, .int .i64 0, .int .i64 0, .int .i64 2, .int .i64 0, .int .i64 0, .int .i64 0, .int .i64 0, .int .i64 0, .int .i64 0, .int .i64 0]] w fun e w' => e = .returned (pageV y) ∧ Below w.heap.size w w') := Lib.hid (fun w => by
    have := put_1 zeros exI w zeros_length
    rw [e1] at this
    exact this)
  have H1 : Hid (∀ w, Calls Try.prog 8 #[pageV y, .int .i64 1] w fun e w' => e = .returned (.agg #[.int .i64 2, .int .i64 0, .int .i64 0, .int .i64 2, .int .i64 0, .int .i64 0, .int .i64 0, .int .i64 0, .int .i64 0, .int .i64 0, .int .i64 0]) ∧ Below w.heap.size w w') := Lib.hid (fun w => by
    have := iget_1 y w hy
    rw [e4] at this
    exact this)
  have H2 : Hid (∀ w, Calls Try.prog 8 #[pageV y, .int .i64 0] w fun e w' => e = .returned (.agg #[.int .i64 0, .int .i64 0, .int .i64 0, .int .i64 0, .int .i64 0, .int .i64 0, .int .i64 0, .int .i64 0, .int .i64 0, .int .i64 0, .int .i64 0]) ∧ Below w.heap.size w w') := Lib.hid (fun w => by
    have := iget_0 y w hy
    rw [e5] at this
    exact this)
  have HC : Hid (∀ b W, PageAt W b y → W.cell? ⟨b, 32, none⟩ = some (.int .u8 2) ∧ W.cell? ⟨b, 39, none⟩ = some (.int .u8 2)) := Lib.hid (fun b W h => by
    have c1 := h.cell 32 (by omega)
    have c2 := h.cell 39 (by omega)
    rw [e2] at c1
    rw [e3] at c2
    exact ⟨c1, c2⟩)
  have E1 : ∀ (a b : Operand) (w : World), (eqGuard .eql 26 a b (.agg #[.int .i64 2, .int .i64 0, .int .i64 0, .int .i64 2, .int .i64 0, .int .i64 0, .int .i64 0, .int .i64 0, .int .i64 0, .int .i64 0, .int .i64 0]) (.agg #[.int .i64 2, .int .i64 0, .int .i64 0, .int .i64 2, .int .i64 0, .int .i64 0, .int .i64 0, .int .i64 0, .int .i64 0, .int .i64 0, .int .i64 0])).run Try.prog w = .ok () w := fun a b w => run_eqGuard_ino w a b exI exI
  have E2 : ∀ (w : World), (binOp .eql 26 (.agg #[.int .i64 2, .int .i64 0, .int .i64 0, .int .i64 2, .int .i64 0, .int .i64 0, .int .i64 0, .int .i64 0, .int .i64 0, .int .i64 0, .int .i64 0]) (.agg #[.int .i64 2, .int .i64 0, .int .i64 0, .int .i64 2, .int .i64 0, .int .i64 0, .int .i64 0, .int .i64 0, .int .i64 0, .int .i64 0, .int .i64 0])).run Try.prog w = .ok (.bool true) w := fun w => run_eql_ino w exI
  have E3 : ∀ (a b : Operand) (w : World), (eqGuard .eql 26 a b (.agg #[.int .i64 0, .int .i64 0, .int .i64 0, .int .i64 0, .int .i64 0, .int .i64 0, .int .i64 0, .int .i64 0, .int .i64 0, .int .i64 0, .int .i64 0]) (.agg #[.int .i64 0, .int .i64 0, .int .i64 0, .int .i64 0, .int .i64 0, .int .i64 0, .int .i64 0, .int .i64 0, .int .i64 0, .int .i64 0, .int .i64 0])).run Try.prog w = .ok () w := fun a b w => run_eqGuard_ino w a b Ii.zero Ii.zero
  have E4 : ∀ (w : World), (binOp .eql 26 (.agg #[.int .i64 0, .int .i64 0, .int .i64 0, .int .i64 0, .int .i64 0, .int .i64 0, .int .i64 0, .int .i64 0, .int .i64 0, .int .i64 0, .int .i64 0]) (.agg #[.int .i64 0, .int .i64 0, .int .i64 0, .int .i64 0, .int .i64 0, .int .i64 0, .int .i64 0, .int .i64 0, .int .i64 0, .int .i64 0, .int .i64 0])).run Try.prog w = .ok (.bool true) w := fun w => run_eql_ino w Ii.zero
  have LY := Lib.hid hy
  clear e1 e2 e3 e4 e5 hy
  go_enter Try.func6, Try.ntmps6
  go_wp2_with (first
    | (go_at_call 7; (with_reducible refine (H0.out _).mono ?_); rintro e w1 ⟨rfl, hb1⟩)
    | ((with_reducible refine wpList_store_new rfl (.tmp 1) (.tmp 4) rfl rfl ?_ ?_ LY.out ?_); (exact rfl); (exact rfl); intro W2 hP hb2 hz2; have S : Hid (PageAt W2 w1.heap.size y ∧ Below w.heap.size w W2) := Lib.hid ⟨hP, hb1.trans (hb2.mono hb1.size)⟩; clear hP hb2 hz2 hb1; generalize w1.heap.size = D at S ⊢; have c1 := (HC.out D W2 S.out.1).1; have c2 := (HC.out D W2 S.out.1).2)
    | ((with_reducible refine wpList_load_guarded S.out.1 (.tmp 1) rfl rfl ?_ ?_); (exact rfl))
    | (go_at_call 8; (with_reducible refine (H1.out _).mono ?_); rintro e w' ⟨rfl, hb⟩; replace S : Hid (PageAt w' D y ∧ Below w.heap.size w w') := Lib.hid ⟨S.out.1.step hb, S.out.2.trans (hb.mono S.out.2.size)⟩; clear hb)
    | (go_at_call 8; (with_reducible refine (H2.out _).mono ?_); rintro e w' ⟨rfl, hb⟩; replace S : Hid (PageAt w' D y ∧ Below w.heap.size w w') := Lib.hid ⟨S.out.1.step hb, S.out.2.trans (hb.mono S.out.2.size)⟩; clear hb))
  go_ret
  exact ⟨rfl, S.out.2⟩
end Go.Proofs.Ytchlhnpnenafnaa
