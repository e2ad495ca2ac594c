/-
  Bytes laid over a page; a half that is cleared; the four numbers loaded whole.
-/
import Derived.Test.YtchlhnpnenafnaaIleaf
import Derived.Test.YtchlhnpnenafnaaPref
import Derived.Lib.SliceRun
namespace Go.Proofs.Ytchlhnpnenafnaa
open Go.RowKit
open Ii (Ino)

theorem PageAt.over {w : World} {b : Nat} {p : List UInt8} (h : PageAt w b p) (a : Nat) (s : List UInt8) (hs : a + s.length ≤ 64) : PageAt (w.setCells b a (byteVals s)) b (Pg.over p a s) where
  len := by rw [Pg.over_length _ _ _ (by rw [h.len]; exact hs), h.len]
  range := fun j v hv => by
    rw [Nat.zero_add]
    have hj : j < 64 := by
      have := (List.getElem?_eq_some_iff.1 hv).1
      rw [byteVals_length, Pg.over_length _ _ _ (by rw [h.len]; exact hs), h.len] at this
      exact this
    have hv' : (Pg.over p a s)[j]?.map (fun c => Value.int .u8 (c.toNat : Int)) = Option.some v := by rw [← hv]; unfold byteVals; rw [List.getElem?_map]
    rw [Pg.over_at _ _ _ _ (by rw [h.len]; exact hs)] at hv'
    by_cases h1 : a ≤ j ∧ j < a + s.length
    · rw [if_neg (by omega), if_pos h1.2] at hv'
      have hin := World.cell?_setCells_in b (byteVals s) a w (fun i hi => h.isSome (a + i) (by rw [byteVals_length] at hi; omega)) (j - a) (by rw [byteVals_length]; omega)
      rw [show a + (j - a) = j by omega] at hin
      rw [hin, ← hv', ← List.getElem?_eq_getElem]
      unfold byteVals
      rw [List.getElem?_map]
    · rw [World.cell?_setCells_out b (byteVals s) a w ⟨b, j, none⟩ (fun _ _ => by rw [byteVals_length]; show j < a ∨ a + s.length ≤ j; omega)]
      have hpj : p[j]?.map (fun c => Value.int .u8 (c.toNat : Int)) = Option.some v := by
        by_cases h2 : j < a
        · rw [if_pos h2] at hv'; exact hv'
        · rw [if_neg h2, if_neg (by omega)] at hv'; exact hv'
      have := h.range j v (by unfold byteVals; rw [List.getElem?_map]; exact hpj)
      rwa [Nat.zero_add] at this
  free := World.there_setCells h.free _ _ _

/-! ### a half is cleared -/
theorem zero8 (w : World) : (zeroValue 5).run Try.prog w = .ok (.int .u8 0) w := by kernel_rfl
theorem clear_half {w0 W : World} {q z : List UInt8} {x : Ino} (k : PutS w0 q z x W) (A : Nat) (hA : A + 32 ≤ 64) (ty : TypeId) (c : Nat) :
    (Builtin.clear_ #[48] ty #[.slice (some ⟨w0.heap.size, A, none⟩) 32 c]).run Try.prog W = .ok (.tuple #[]) (W.setCells w0.heap.size A (byteVals Ii.z32)) :=
  Lib.run_clear_slice W _ _ ty (.int .u8 0) Try.underlying48 zero8 rfl rfl w0.heap.size A 32 c (by omega) (fun j hj => k.page.isSome (A + j) (by omega)) (fun j hj => k.page.frozen (A + j) (by omega))
theorem PutS.cleared {w0 W : World} {q z : List UInt8} {x : Ino} (k : PutS w0 q z x W) (A : Nat) (hA : A + 32 ≤ 64) : PutS w0 (Pg.over q A Ii.z32) z x (W.setCells w0.heap.size A (byteVals Ii.z32)) :=
  ⟨k.page.over A Ii.z32 (by rw [Ii.z32_length]; exact hA), k.ino.put_other _ _ _ (by omega), k.out.put_other _ _ _ (by omega), below_setCells _ (Nat.le_refl _) _ _ _ k.below⟩
theorem run_clear_op {w0 W : World} {q z : List UInt8} {x : Ino} {ρ : Operand → Value} {op : Oper} (k : PutS w0 q z x W) (A : Nat) (hA : A + 32 ≤ 64) (n : Nat) (v : Operand) (c : Call) (ho : op.op = .call c) (hc : c.callee = .builtin .clear) (ha : c.args = #[v]) (ht : c.argTypes = #[48])
    (hv : ρ v = .slice (some ⟨w0.heap.size, A, none⟩) 32 n) : (execOp ρ op).run Try.prog W = .ok (.value (.tuple #[])) (W.setCells w0.heap.size A (byteVals Ii.z32)) := by
  have h := fun ty => clear_half k A hA ty n
  unfold execOp
  simp [ho, resolve, hc, ha, ht, hv, Go.invoke, Go.builtin, h]
theorem wpList_clear_put {ops : Array Oper} {rest : List Oper} {op : Oper} {a : Act} {Q : Exit → Act → World → Prop} {w0 W : World} {q z : List UInt8} {x : Ino} (k : PutS w0 q z x W) (A : Nat) (hA : A + 32 ≤ 64) (n : Nat) (hgd : op.guard = none) (v : Operand) (c : Call) (ho : op.op = .call c) (hc : c.callee = .builtin .clear) (ha : c.args = #[v]) (ht : c.argTypes = #[48])
    (hv : a.eval v = .slice (some ⟨w0.heap.size, A, none⟩) 32 n) (h : ∀ W2, PutS w0 (Pg.over q A Ii.z32) z x W2 → wpList Try.prog ops Q rest (a.put op.dst (.tuple #[])) W2) : wpList Try.prog ops Q (op :: rest) a W :=
  wpList_plain hgd fun _ hK => by
    unfold Oper.wp
    rw [run_clear_op k A hA n v c ho hc ha ht hv]
    exact hK _ _ (h _ (k.cleared A hA))
/-- the four numbers, loaded whole -/
theorem RowAt.four {w : World} {b : Nat} {x : Ino} (k : RowAt w b (inoL x)) : w.rangeAt b 5 [.int .i64 x.a, .int .i64 x.b, .int .i64 x.c, .int .i64 x.d] := by
  intro j v hv
  have h : (inoL x)[5 + j]? = some v := by
    match j, hv with
    | 0, hv => exact hv
    | 1, hv => exact hv
    | 2, hv => exact hv
    | 3, hv => exact hv
    | n + 4, hv => simp at hv
  have := k.range (5 + j) v h
  rwa [Nat.zero_add] at this
theorem wpList_load_four {ops : Array Oper} {rest : List Oper} {op : Oper} {a : Act} {Q : Exit → Act → World → Prop} {w : World} {b : Nat} {x : Ino} (k : RowAt w b (inoL x)) (hgd : op.guard = none) (u : Operand) (ho : op.op = .load 24 u)
    (hx : a.eval u = .pointer (some ⟨b, 5, none⟩)) (hn : wpList Try.prog ops Q rest (a.put op.dst (.agg #[.int .i64 x.a, .int .i64 x.b, .int .i64 x.c, .int .i64 x.d])) w) : wpList Try.prog ops Q (op :: rest) a w :=
  wpList_load_mid hgd 24 u ho b 5 hx _ _ k.four Try.underlying24 rfl (by kernel_rfl) hn

theorem index_four0 (x : Ino) (w : World) : (Instr.index 24 (.agg #[.int .i64 x.a, .int .i64 x.b, .int .i64 x.c, .int .i64 x.d]) (.int .i64 0)).run Try.prog w = .ok (.int .i64 x.a) w := by kernel_rfl
theorem index_four1 (x : Ino) (w : World) : (Instr.index 24 (.agg #[.int .i64 x.a, .int .i64 x.b, .int .i64 x.c, .int .i64 x.d]) (.int .i64 1)).run Try.prog w = .ok (.int .i64 x.b) w := by kernel_rfl
theorem index_four2 (x : Ino) (w : World) : (Instr.index 24 (.agg #[.int .i64 x.a, .int .i64 x.b, .int .i64 x.c, .int .i64 x.d]) (.int .i64 2)).run Try.prog w = .ok (.int .i64 x.c) w := by kernel_rfl
theorem index_four3 (x : Ino) (w : World) : (Instr.index 24 (.agg #[.int .i64 x.a, .int .i64 x.b, .int .i64 x.c, .int .i64 x.d]) (.int .i64 3)).run Try.prog w = .ok (.int .i64 x.d) w := by kernel_rfl
theorem set_len (p : List UInt8) (a n v : Int) (w : World) (hp : p.length = 64) (h1 : -9223372036854775808 ≤ n) (h2 : n ≤ 9223372036854775807) :
    Calls Try.prog 16 #[pageV p, .int .i64 a, .int .i64 n, .int .i64 v] w fun e w' => (e = .returned (pageV (Pg.setN p a n v)) ∧ (Pg.setN p a n v).length = 64) ∧ Below w.heap.size w w' :=
  (set_any p a n v w hp h1 h2).mono fun _ _ h => ⟨⟨h.1, Pg.setN_length p a n v hp⟩, h.2⟩
theorem refSet_len (p : List UInt8) (a n v : Int) (w : World) (hp : p.length = 64) :
    Calls Try.prog 18 #[pageV p, .int .i64 a, .int .i64 n, .int .i64 v] w fun e w' => (e = .returned (pageV (Pg.setN p a n v)) ∧ (Pg.setN p a n v).length = 64) ∧ Below w.heap.size w w' :=
  (refSet_any p a n v w hp).mono fun _ _ h => ⟨⟨h.1, Pg.setN_length p a n v hp⟩, h.2⟩
end Go.Proofs.Ytchlhnpnenafnaa
