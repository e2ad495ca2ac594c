/-
  The contract of the statement's great, over two calls that are written out.
-/
import Derived.Test.YtlamllnflbdcjaaJpages
namespace Go.Proofs.Ytlamllnflbdcjaa
open Go.RowKit
open Dk (zeros zeros_length)
open Hd (Head rightB pageH)
open Jn (Chg quietH liveH)

def opVals (A : Option Addr) (n c : Nat) : List Value := .int .i64 0 :: .int .i64 0 :: .slice A n c :: .slice none 0 0 :: byteVals zeros
theorem opVals_length (A : Option Addr) (n c : Nat) : (opVals A n c).length = 68 := by unfold opVals; simp [byteVals_length, zeros_length]
theorem opVals_one (A : Option Addr) (n c : Nat) : ∀ v ∈ opVals A n c, v.oneCell' = true := by
  intro v hv
  unfold opVals at hv
  simp only [List.mem_cons] at hv
  rcases hv with rfl | rfl | rfl | rfl | hv
  · rfl
  · rfl
  · rfl
  · rfl
  · exact byteVals_one _ v hv
def opV (A : Option Addr) (n c : Nat) : Value := .agg (opVals A n c).toArray
theorem op_info : (Try.prog.info? 33).map (·.size) = some 68 := by kernel_rfl
def opZero : Array Value := (opVals none 0 0).toArray
theorem opZero_size : opZero.size = 68 := by unfold opZero; rw [List.size_toArray, opVals_length]
theorem zeroOp (w : World) : (zeroValue 33).run Try.prog w = .ok (.agg opZero) w := by kernel_rfl
theorem built_op (A : Option Addr) (n c : Nat) : Try.prog.built 33 [(2, .slice A n c)] = some (opVals A n c).toArray := by kernel_rfl
theorem wpList_buildOp {ops : Array Oper} {rest : List Oper} {o : Oper} {a : Act} {w : World} {Q : Exit → Act → World → Prop} (A : Option Addr) (n c : Nat) (hg : o.guard = none) (x : Operand) (ho : o.op = .build 33 #[(2, x)]) (d : Option Tmp) (hd : o.dst = d) (hx : a.eval x = .slice A n c)
    (h : wpList Try.prog ops Q rest (a.put d (opV A n c)) w) : wpList Try.prog ops Q (o :: rest) a w :=
  wpList_buildTo hg 33 _ ho d hd (opVals A n c).toArray (by
    simp only [List.map_toArray, List.map_cons, List.map_nil, hx]
    exact built_op A n c) h
theorem op_type : ∃ i z, Try.prog.info? 33 = some i ∧ i.zero = some z ∧ i.size = 68 ∧ z.cells.size = 68 := by
  have h1 := op_info
  have h3 : ((Try.prog.info? 33).bind (·.zero)).map (·.cells.size) = some 68 := by kernel_rfl
  cases h : Try.prog.info? 33 with
  | none => rw [h] at h1; cases h1
  | some i =>
    rw [h] at h1 h3
    cases hz : i.zero with
    | none => simp [hz] at h3
    | some z =>
      simp [hz] at h1 h3
      exact ⟨i, z, rfl, hz, h1, h3⟩
theorem run_buildOps (w : World) (A B : Option Addr) (n c k e : Nat) : (Instr.buildSlice 34 2 #[(0, opV A n c), (1, opV B k e)]).run Try.prog w = .ok (.slice (some ⟨w.heap.size, 0, none⟩) 2 2) (w.alloc (.cells (opVals A n c ++ opVals B k e).toArray 33)) := by
  obtain ⟨i, z, hi, hz, hs, _⟩ := op_type
  refine run_buildSlice w 34 33 2 #[(0, opV A n c), (1, opV B k e)] _ i z Try.underlying34 hi hz (by rw [hs]; omega) (by rw [hs]; omega) ?_
  rw [hs]
  have h := Great.fill_whole (s := 68) (by omega) [opV A n c, opV B k e] ((Array.range (2 * 68)).map (z.cells[· % z.cells.size]!)) (fun v hv => by
    simp only [List.mem_cons, List.not_mem_nil, or_false] at hv
    rcases hv with rfl | rfl
    · show (opVals A n c).toArray.size = 68
      rw [List.size_toArray, opVals_length]
    · show (opVals B k e).toArray.size = 68
      rw [List.size_toArray, opVals_length]) (by simp)
  refine h.trans ?_
  simp [opV, Value.cells]
theorem wpList_buildOps {ops : Array Oper} {rest : List Oper} {o : Oper} {a : Act} {w : World} {Q : Exit → Act → World → Prop} (A B : Option Addr) (n c k e : Nat) (hgd : o.guard = none) (x y : Operand) (ho : o.op = .buildSlice 34 2 #[(0, x), (1, y)]) (hx : a.eval x = opV A n c) (hy : a.eval y = opV B k e)
    (h : wpList Try.prog ops Q rest (a.put o.dst (.slice (some ⟨w.heap.size, 0, none⟩) 2 2)) (w.alloc (.cells (opVals A n c ++ opVals B k e).toArray 33))) : wpList Try.prog ops Q (o :: rest) a w :=
  wpList_plain hgd fun _ hK => by
    have hr := run_buildOps w A B n c k e
    unfold Oper.wp execOp
    simp only [ho, List.map_toArray, List.map_cons, List.map_nil, hx, hy, Sem.run_bind, hr, Result.andThen_ok]
    exact hK _ _ h
theorem wpList_load_op {ops : Array Oper} {rest : List Oper} {op : Oper} {a : Act} {Q : Exit → Act → World → Prop} {w : World} {b o : Nat} {A : Option Addr} {n c : Nat} (hr : w.rangeAt b o (opVals A n c)) (hgd : op.guard = none) (x : Operand) (ho : op.op = .load 33 x)
    (hx : a.eval x = .pointer (some ⟨b, o, none⟩)) (h : wpList Try.prog ops Q rest (a.put op.dst (opV A n c)) w) : wpList Try.prog ops Q (op :: rest) a w :=
  wpList_load_mid hgd 33 x ho b o hx (opVals A n c) _ hr Try.underlying33 rfl (by rw [op_info, opVals_length]) h
theorem wpList_store_newop {ops : Array Oper} {rest : List Oper} {op : Oper} {a : Act} {Q : Exit → Act → World → Prop} {w : World} {Z : Array Value} {t : TypeId} {A : Option Addr} {n c : Nat} (hgd : op.guard = none) (x y : Operand) (ho : op.op = .store 33 x y)
    (hx : a.eval x = .pointer (some ⟨w.heap.size, 0, none⟩)) (hy : a.eval y = opV A n c) (hZ : Z.size = 68)
    (h : ∀ W2, RowAt W2 w.heap.size (opVals A n c) → Below w.heap.size w W2 → wpList Try.prog ops Q rest (a.put op.dst undef) W2) :
    wpList Try.prog ops Q (op :: rest) a (w.alloc (.cells Z t)) := by
  have hlen : (opVals A n c).toArray.size = 68 := by rw [List.size_toArray, opVals_length]
  have ht : (w.alloc (.cells Z t)).there w.heap.size 0 68 := there_new w Z t _ (by omega)
  refine wpList_store_mid hgd 33 x y ho w.heap.size 0 (opVals A n c).toArray hx hy (by rw [hlen]; exact ht) (by rw [op_info, hlen]) (all_oneCell_toArray (opVals_one A n c)) (h _ ?_ ?_)
  · exact ⟨World.rangeAt_setCells_same _ _ _ _ (by rw [List.toList_toArray, opVals_length]; exact ht), World.there_setCells (by rw [opVals_length]; exact ht) _ _ _⟩
  · exact below_setCells _ (Nat.le_refl _) _ _ _ ((Below.refl _ _).alloc (Nat.le_refl _) _)

structure Sl where
  A : Option Addr
  n : Nat
  c : Nat
def anyB (xs : List Sl) : Bool := xs.any fun x => decide (60 < x.n)
def OpsAt (w : World) (b : Nat) (xs : List Sl) : Prop := ∀ i x, xs[i]? = some x → w.rangeAt b (i * 68) (opVals x.A x.n x.c)
theorem anyB_cons (x : Sl) (r : List Sl) : anyB (x :: r) = (decide (60 < x.n) || anyB r) := rfl
set_option maxRecDepth 100000 in
set_option maxHeartbeats 2000000 in
theorem great_any {w : World} (b : Nat) (xs : List Sl) (hb : b < w.heap.size) (h : OpsAt w b xs) (hl : xs.length = 2) (hn : ∀ x ∈ xs, x.n ≤ maxLen) :
    Calls Try.prog 5 #[.slice (some ⟨b, 0, none⟩) 2 2, .int .i64 2] w fun e w' => e = .returned (.bool (anyB xs)) ∧ Below w.heap.size w w' := by
  have HO := Lib.hid h
  have HB := Lib.hid hb
  have HL := Lib.hid hl
  have HN := Lib.hid hn
  clear h hb hl hn
  go_enter Try.func5, Try.ntmps5
  go_wp2_with fail
  go_loopw [13] (fun i wr => ∃ k : Nat, k ≤ 2 ∧ i = .int .i64 k ∧ Below w.heap.size w wr ∧ anyB xs = anyB (xs.drop k)) (fun i _ => 2 - (intOf i).toNat)
  case atStart => exact ⟨0, by omega, rfl, Below.refl _ _, rfl⟩
  case round =>
    obtain ⟨k, hk, rfl, hbel, hany⟩ := hrel
    have HA := Lib.hid hany
    have HBL := Lib.hid hbel
    clear hany hbel
    by_cases hlt : k < 2
    · obtain ⟨x, hx⟩ : ∃ x, xs[k]? = some x := ⟨_, List.getElem?_eq_getElem (by rw [HL.out]; exact hlt)⟩
      have HR : Hid (wr.rangeAt b (k * 68) (opVals x.A x.n x.c)) := Lib.hid (fun j v hv => (HBL.out.cell (p := ⟨b, k * 68 + j, none⟩) HB.out).trans (HO.out k x hx j v hv))
      have hmax := HN.out x (List.mem_of_getElem? hx)
      unfold maxLen at hmax
      have HD : Hid (anyB xs = (decide (60 < x.n) || anyB (xs.drop (k + 1)))) := Lib.hid (by
        obtain ⟨h1, h2⟩ := List.getElem?_eq_some_iff.1 hx
        rw [HA.out, List.drop_eq_getElem_cons h1, h2, anyB_cons])
      clear hx
      have hz33 := zeroOp
      by_cases h60 : 60 < x.n
      · have h60' : (60 : Int) < (x.n : Int) := by omega
        have HE : Hid (anyB xs = true) := Lib.hid (by rw [HD.out, decide_eq_true h60]; rfl)
        go_wp2_with (first
          | ((with_reducible refine wpList_load_op HR.out rfl (.tmp 15) rfl ?_ ?_); (exact rfl))
          | ((with_reducible refine wpList_store_newop (A := x.A) (n := x.n) (c := x.c) rfl (.tmp 6) (.tmp 16) rfl rfl ?_ opZero_size ?_); (exact rfl); intro W2 hP hB2; have c2 := hP.cell 2 _ rfl; have c3 := hP.cell 3 _ rfl; have HB2 := Lib.hid (HBL.out.trans (hB2.mono HBL.out.size)); clear hP hB2; generalize wr.heap.size = B at c2 c3 ⊢))
        go_ret
        exact ⟨by rw [HE.out]; rfl, HB2.out⟩
      · have h60' : ¬ (60 : Int) < (x.n : Int) := by omega
        have HE : Hid (anyB xs = anyB (xs.drop (k + 1))) := Lib.hid (by rw [HD.out, decide_eq_false h60]; rfl)
        go_wp2_with (first
          | ((with_reducible refine wpList_load_op HR.out rfl (.tmp 15) rfl ?_ ?_); (exact rfl))
          | ((with_reducible refine wpList_store_newop (A := x.A) (n := x.n) (c := x.c) rfl (.tmp 6) (.tmp 16) rfl rfl ?_ opZero_size ?_); (exact rfl); intro W2 hP hB2; have c2 := hP.cell 2 _ rfl; have c3 := hP.cell 3 _ rfl; have HB2 := Lib.hid (HBL.out.trans (hB2.mono HBL.out.size)); clear hP hB2; generalize wr.heap.size = B at c2 c3 ⊢))
        go_roundw
        case rel => exact ⟨k + 1, by omega, by go_num, HB2.out, HE.out⟩
        case measure => simp [intOf]; omega
    · obtain rfl : k = 2 := by omega
      have HE : Hid (anyB xs = false) := Lib.hid (by rw [HA.out, List.drop_of_length_le (by rw [HL.out]; omega)]; rfl)
      go_wp2_with fail
      go_ret
      exact ⟨by rw [HE.out]; rfl, HBL.out⟩
theorem opsAt_new (w : World) (x y : Sl) (t : TypeId) : OpsAt (w.alloc (.cells (opVals x.A x.n x.c ++ opVals y.A y.n y.c).toArray t)) w.heap.size [x, y] := by
  intro i z hz
  have hr := (rowAt_new w (opVals x.A x.n x.c ++ opVals y.A y.n y.c) t).range
  match i, hz with
  | 0, hz =>
    injection hz with hz
    subst hz
    intro j v hv
    have hj : j < 68 := by have := (List.getElem?_eq_some_iff.1 hv).1; rw [opVals_length] at this; exact this
    have := hr j v (by rw [List.getElem?_append_left (by rw [opVals_length]; exact hj)]; exact hv)
    rw [Nat.zero_mul]; exact this
  | 1, hz =>
    injection hz with hz
    subst hz
    intro j v hv
    have := hr (68 + j) v (by rw [List.getElem?_append_right (by rw [opVals_length]; omega), opVals_length, Nat.add_sub_cancel_left]; exact hv)
    rw [Nat.one_mul]
    rwa [Nat.zero_add] at this
end Go.Proofs.Ytlamllnflbdcjaa
