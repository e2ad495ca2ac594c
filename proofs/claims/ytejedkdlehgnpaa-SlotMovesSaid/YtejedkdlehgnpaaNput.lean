/-
  The contract of slot.Put.
-/
import Derived.Test.YtejedkdlehgnpaaNright
import Derived.Test.YtejedkdlehgnpaaPtext
import Derived.Test.YtejedkdlehgnpaaPopen
import Derived.Lib.SliceRun
namespace Go.Proofs.Ytejedkdlehgnpaa
open Go.RowKit

theorem set_len (p : List UInt8) (a n v : Int) (w : World) (hp : p.length = 64) (h1 : -9223372036854775808 ≤ n) (h2 : n ≤ 9223372036854775807) :
    Calls Try.prog 22 #[pageV p, .int .i64 a, .int .i64 n, .int .i64 v] w fun e w' => (e = .returned (pageV (Pg.setN p a n v)) ∧ (Pg.setN p a n v).length = 64) ∧ Below w.heap.size w w' :=
  (set_any p a n v w hp h1 h2).mono fun _ _ h => ⟨⟨h.1, Pg.setN_length p a n v hp⟩, h.2⟩
/-- what stands in memory at Put: the page, the entry, the page that is handed back -/
structure PutS (w0 : World) (q : List UInt8) (n : Int) (s : ByteArray) (W : World) : Prop where
  page : PageAt W w0.heap.size q
  ent : RowAt W (w0.heap.size + 1) (entL n s)
  out : PageAt W (w0.heap.size + 2) zeros
  below : Below w0.heap.size w0 W
theorem PutS.call {w0 : World} {q : List UInt8} {n : Int} {s : ByteArray} {W W' : World} (k : PutS w0 q n s W) (hb : Below W.heap.size W W') : PutS w0 q n s W' :=
  ⟨k.page.step hb, RowAt.step k.ent hb, k.out.step hb, k.below.trans (hb.mono k.below.size)⟩
theorem PutS.put {w0 : World} {q : List UInt8} {n : Int} {s : ByteArray} {W : World} (k : PutS w0 q n s W) (r : List UInt8) (hr : r.length = 64) : PutS w0 r n s (W.setCells w0.heap.size 0 (byteVals r)) :=
  ⟨k.page.put r hr, k.ent.put_other _ _ _ (by omega), k.out.put_other _ _ _ (by omega), below_setCells _ (Nat.le_refl _) _ _ _ k.below⟩
theorem PutS.back {w0 : World} {q : List UInt8} {n : Int} {s : ByteArray} {W : World} (k : PutS w0 q n s W) (r : List UInt8) (hr : r.length = 64) :
    PageAt (W.setCells (w0.heap.size + 2) 0 (byteVals r)) (w0.heap.size + 2) r ∧ Below w0.heap.size w0 (W.setCells (w0.heap.size + 2) 0 (byteVals r)) :=
  ⟨k.out.put r hr, below_setCells _ (by omega) _ _ _ k.below⟩
theorem putS_box (w : World) (p : List UInt8) (n : Int) (s : ByteArray) (hp : p.length = 64) :
    PutS w p n s (((w.alloc (.cells (byteVals p).toArray 32)).alloc (.cells #[.int .i64 n, .string s] 23)).alloc (.cells zeroCells 32)) where
  page := ((pageAt_new w p _ hp).alloc _).alloc _
  ent := by
    have h := (rowAt_new (w.alloc (.cells (byteVals p).toArray 32)) (entL n s) 23).alloc (.cells zeroCells 32)
    rw [World.size_alloc] at h
    exact h
  out := by
    have h := pageAt_zeros ((w.alloc (.cells (byteVals p).toArray 32)).alloc (.cells #[.int .i64 n, .string s] 23)) 32
    simp at h
    exact h
  below := (((Below.refl _ _).alloc (Nat.le_refl _) _).alloc (by simp) _).alloc (by simp; omega) _

/-! ### a slot is cleared -/
theorem zero8 (w : World) : (zeroValue 5).run Try.prog w = .ok (.int .u8 0) w := by kernel_rfl
theorem clear_slot {w0 W : World} {q : List UInt8} {m : Int} {s : ByteArray} (k : PutS w0 q m s W) (A : Nat) (hA : A + 16 ≤ 64) (ty : TypeId) (c : Nat) :
    (Builtin.clear_ #[48] ty #[.slice (some ⟨w0.heap.size, A, none⟩) 16 c]).run Try.prog W = .ok (.tuple #[]) (W.setCells w0.heap.size A (byteVals (Nm.zs 16))) :=
  Lib.run_clear_slice W _ _ ty (.int .u8 0) Try.underlying48 zero8 rfl rfl w0.heap.size A 16 c (by omega) (fun j hj => k.page.isSome (A + j) (by omega)) (fun j hj => k.page.frozen (A + j) (by omega))
theorem PutS.cleared {w0 W : World} {q : List UInt8} {m : Int} {s : ByteArray} (k : PutS w0 q m s W) (A : Nat) (hA : A + 16 ≤ 64) : PutS w0 (Pg.over q A (Nm.zs 16)) m s (W.setCells w0.heap.size A (byteVals (Nm.zs 16))) :=
  ⟨k.page.over A (Nm.zs 16) (by rw [Nm.zs_length]; exact hA), k.ent.put_other _ _ _ (by omega), k.out.put_other _ _ _ (by omega), below_setCells _ (Nat.le_refl _) _ _ _ k.below⟩
theorem run_clear_op {w0 W : World} {q : List UInt8} {m : Int} {s : ByteArray} {ρ : Operand → Value} {op : Oper} (k : PutS w0 q m s W) (A : Nat) (hA : A + 16 ≤ 64) (n : Nat) (v : Operand) (c : Call) (ho : op.op = .call c) (hc : c.callee = .builtin .clear) (ha : c.args = #[v]) (ht : c.argTypes = #[48])
    (hv : ρ v = .slice (some ⟨w0.heap.size, A, none⟩) 16 n) : (execOp ρ op).run Try.prog W = .ok (.value (.tuple #[])) (W.setCells w0.heap.size A (byteVals (Nm.zs 16))) := by
  have h := fun ty => clear_slot k A hA ty n
  unfold execOp
  simp [ho, resolve, hc, ha, ht, hv, Go.invoke, Go.builtin, h]
theorem wpList_clear_put {ops : Array Oper} {rest : List Oper} {op : Oper} {a : Act} {Q : Exit → Act → World → Prop} {w0 W : World} {q : List UInt8} {m : Int} {s : ByteArray} (k : PutS w0 q m s W) (A : Nat) (hA : A + 16 ≤ 64) (n : Nat) (hgd : op.guard = none) (v : Operand) (c : Call) (ho : op.op = .call c) (hc : c.callee = .builtin .clear) (ha : c.args = #[v]) (ht : c.argTypes = #[48])
    (hv : a.eval v = .slice (some ⟨w0.heap.size, A, none⟩) 16 n) (h : ∀ W2, PutS w0 (Pg.over q A (Nm.zs 16)) m s W2 → wpList Try.prog ops Q rest (a.put op.dst (.tuple #[])) W2) : wpList Try.prog ops Q (op :: rest) a W :=
  wpList_plain hgd fun _ hK => by
    unfold Oper.wp
    rw [run_clear_op k A hA n v c ho hc ha ht hv]
    exact hK _ _ (h _ (k.cleared A hA))
theorem wpList_store_put {ops : Array Oper} {rest : List Oper} {op : Oper} {a : Act} {Q : Exit → Act → World → Prop} {w0 W : World} {q r : List UInt8} {m : Int} {s : ByteArray} (k : PutS w0 q m s W) (hr : r.length = 64) (hgd : op.guard = none) (x y : Operand) (ho : op.op = .store 32 x y)
    (hx : a.eval x = .pointer (some ⟨w0.heap.size, 0, none⟩)) (hy : a.eval y = pageV r) (h : ∀ W2, PutS w0 r m s W2 → wpList Try.prog ops Q rest (a.put op.dst undef) W2) : wpList Try.prog ops Q (op :: rest) a W :=
  wpList_store_page k.page hr hgd x y ho hx hy (h _ (k.put r hr))
set_option maxRecDepth 100000 in
set_option maxHeartbeats 4000000 in
theorem put_yes (p : List UInt8) (i : Int) (A : Nat) (n : Int) (s : ByteArray) (w : World) (hp : p.length = 64) (h0 : 0 ≤ i) (h4 : i < 4) (hA : i * 16 = (A : Int)) (hn : Nm.standB n s.data.toList = true) (hm : s.size ≤ maxLen) :
    Calls Try.prog 13 #[pageV p, .int .i64 i, entV n s] w fun e w' => e = .returned (pageV (Pg.setTextN (Pg.setN (Pg.setN (Pg.over p A (Nm.zs 16)) A 2 n) ((A : Int) + 2) 1 s.size) ((A : Int) + 3) s.data.toList)) ∧ Below w.heap.size w w' := by
  have hs := putS_box w p n s hp
  rw [zeroCells_def] at hs
  have HS := Lib.hid hs; clear hs
  have HT := Lib.hid (fun w => isThere_any i w)
  rw [show thereB i = true from decide_eq_true ⟨h0, h4⟩] at HT
  have HM := Lib.hid (fun w => stand_any n s w hm)
  rw [hn] at HM
  have hA64 : A + 16 ≤ 64 := by omega
  obtain ⟨q1, E1⟩ : ∃ y, Hid (y = Pg.over p A (Nm.zs 16)) := ⟨_, Lib.hid rfl⟩
  have L1 : Hid (q1.length = 64) := Lib.hid (by rw [E1.out, Pg.over_length _ _ _ (by rw [Nm.zs_length]; omega), hp])
  obtain ⟨q2, E2⟩ : ∃ y, Hid (y = Pg.setN q1 A 2 n) := ⟨_, Lib.hid rfl⟩
  have L2 : Hid (q2.length = 64) := Lib.hid (by rw [E2.out]; exact Pg.setN_length _ _ _ _ L1.out)
  have C2 := Lib.hid (fun w => set_any q1 (A : Int) 2 n w L1.out (by decide) (by decide))
  rw [← E2.out] at C2
  obtain ⟨q3, E3⟩ : ∃ y, Hid (y = Pg.setN q2 ((A : Int) + 2) 1 s.size) := ⟨_, Lib.hid rfl⟩
  have L3 : Hid (q3.length = 64) := Lib.hid (by rw [E3.out]; exact Pg.setN_length _ _ _ _ L2.out)
  have C3 := Lib.hid (fun w => set_any q2 ((A : Int) + 2) 1 s.size w L2.out (by decide) (by decide))
  rw [← E3.out] at C3
  obtain ⟨q4, E4⟩ : ∃ y, Hid (y = Pg.setTextN q3 ((A : Int) + 3) s.data.toList) := ⟨_, Lib.hid rfl⟩
  have L4 : Hid (q4.length = 64) := Lib.hid (by rw [E4.out]; exact Pg.setTextN_length _ _ _ L3.out)
  have C4 := Lib.hid (fun w => setText_any q3 ((A : Int) + 3) s w L3.out hm)
  rw [← E4.out] at C4
  rw [← E1.out, ← E2.out, ← E3.out, ← E4.out]
  clear E2 E3 E4 hp hn hm
  unfold pageV entV
  go_enter Try.func13, Try.ntmps13
  go_wp2_with (first
    | (go_at_call 20; refine (HT.out _).mono ?_; rintro e w' ⟨rfl, rfl⟩)
    | (go_at_call 21; refine (HM.out _).mono ?_; rintro e w2 ⟨rfl, hb⟩; have S := Lib.hid (HS.out.call hb); clear hb HS; have hsl : (Instr.sliceAt 32 (.pointer (some ⟨w.heap.size, 0, none⟩)) (some (.int .i64 (A : Int))) (some (.int .i64 ((A : Int) + 16))) none).run Try.prog w2 = .ok (.slice (some ⟨w.heap.size, A, none⟩) 16 (64 - A)) w2 := run_slice_page w2 w.heap.size A 16 (by decide) hA64)
    | ((with_reducible refine wpList_clear_put S.out A hA64 (64 - A) rfl (.tmp 22) _ rfl rfl rfl rfl ?_ ?_); (exact rfl); clear hsl; intro W2 S2; rw [← E1.out] at S2; replace S := Lib.hid S2; clear S2 E1; have hc := S.out.ent.cell 0 _ rfl)
    | (with_reducible refine wpList_load_page S.out.page rfl (.tmp 3) rfl rfl ?_)
    | (go_at_call 22; (with_reducible refine (C2.out _).mono ?_); rintro e w' ⟨rfl, hb⟩; clear hc C2; replace S := Lib.hid (S.out.call hb); clear hb)
    | ((with_reducible refine wpList_store_put S.out L2.out rfl (.tmp 3) (.tmp 27) rfl rfl ?_ ?_); (exact rfl); intro W2 S2; replace S := Lib.hid S2; clear S2; have hc := S.out.ent.cell 1 _ rfl)
    | (go_at_call 22; (with_reducible refine (C3.out _).mono ?_); rintro e w' ⟨rfl, hb⟩; clear hc C3; replace S := Lib.hid (S.out.call hb); clear hb)
    | ((with_reducible refine wpList_store_put S.out L3.out rfl (.tmp 3) (.tmp 34) rfl rfl ?_ ?_); (exact rfl); intro W2 S2; replace S := Lib.hid S2; clear S2; have hc := S.out.ent.cell 1 _ rfl)
    | (go_at_call 23; (with_reducible refine (C4.out _).mono ?_); rintro e w' ⟨rfl, hb⟩; clear hc C4; replace S := Lib.hid (S.out.call hb); clear hb)
    | ((with_reducible refine wpList_store_page S.out.out L4.out rfl (.tmp 6) (.tmp 40) rfl rfl ?_ ?_); (exact rfl)))
  exact bodyPost_ret (results_page _ 6 rfl _ (S.out.back q4 L4.out).1 rfl) rfl ⟨rfl, (S.out.back q4 L4.out).2⟩
end Go.Proofs.Ytejedkdlehgnpaa
