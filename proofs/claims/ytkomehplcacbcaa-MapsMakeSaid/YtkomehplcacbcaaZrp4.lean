/-
  The document's Put of a new key into a full Hash.
-/
import Derived.Test.YtkomehplcacbcaaZrk2
import Derived.BigQuiet
namespace Go.Proofs.Ytkomehplcacbcaa
open Go.RowKit Go.Maps

set_option maxRecDepth 100000 in
set_option maxHeartbeats 4000000 in
theorem rput_hash_full (base b : Nat) (sv : Value) (room : Nat) (l : List Z.En) (x : Z.En) (hp : Z.pos x.key l = none) (hr : l.length = room) (hr1 : 1 ≤ room) (w : World) (h : MpAt 67 (.bool false) w base b sv room l) (hn : l.length ≤ 1000) (hbase : base ≤ w.heap.size) :
    Calls Try.prog 11 #[.pointer (some ⟨b, 0, none⟩), .int .i64 x.key, .agg #[.int .i64 x.a, .int .i64 x.b, .int .i64 x.c, .int .i64 x.d]] w fun e w' => e = .returned (.int .i64 28) ∧ ∃ sv', MpTo 67 (.bool false) w base b sv room (l) w' sv' := by
  have S0 : Hid (InS 67 (.bool false) w base b sv room l w.heap.size (wordsL x) (w.alloc (.cells #[.int .i64 x.a, .int .i64 x.b, .int .i64 x.c, .int .i64 x.d] 38)) sv) := Lib.hid ⟨MpTo.self h ((Below.refl _ _).alloc (Nat.le_refl _) _), rowAt_new w (wordsL x) _, by rw [wordsL_length]; omega, fun hf => by (have := (h.foot hf).2; omega), Nat.le_refl _⟩
  have HF := Lib.hid (fun w => rat_any (.bool false) base b sv room l x.key w)
  have HBS := Lib.hid hbase
  have HL := Lib.hid hn
  have HP : Hid (Z.posI x.key l = -1) := Lib.hid (by unfold Z.posI; rw [hp])
  have hcmp :  ((l.length : Int) = (room : Int)) := by omega
  have hcmpb : ((l.length : Int) == (room : Int)) = true := by simp; omega
  obtain ⟨A, c, rfl⟩ := owns_slice h.own
  have H0 : Hid (0 < l.length ∨ l.length < room) := Lib.hid (by omega)
  have HRM := Lib.hid hr
  have H1 := Lib.hid hr1
  clear h hp hbase hn hr hr1
  go_enter Try.func11, Try.ntmps11
  go_upto_region 1 with fail
  generalize w.alloc (.cells #[.int .i64 x.a, .int .i64 x.b, .int .i64 x.c, .int .i64 x.d] 38) = W1 at S0 ⊢
  have hc0 : W1.cell? ⟨b, 0, none⟩ = some (.bool false) := S0.out.way.at_.row.cell 0 _ rfl
  have hc1 : W1.cell? ⟨b, 1, none⟩ = some (.int .i64 (room : Int)) := S0.out.way.at_.row.cell 1 _ rfl
  have hc2 : W1.cell? ⟨b, 2, none⟩ = some (.slice A l.length c) := S0.out.way.at_.row.cell 2 _ rfl
  go_upto_region 8 with (go_at_call 27; refine (HF.out _ S0.out.way.at_ HL.out).mono ?_; rw [HP.out]; rintro e w2 ⟨rfl, rfl⟩)
  go_quiet (fail)
  go_wp2
  refine bodyPost_ret (results_tmp rfl _ _ _) rfl ⟨rfl, _, (S0.out.call (W' := W1.drewN nq) (below_drewN W1 nq)).way⟩
end Go.Proofs.Ytkomehplcacbcaa
