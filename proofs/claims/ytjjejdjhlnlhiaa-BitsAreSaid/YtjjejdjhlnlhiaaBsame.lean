/-
  The contracts of the two comparers: pages against pages, numbers against numbers.
-/
import Derived.Test.YtjjejdjhlnlhiaaBleaf
namespace Go.Proofs.Ytjjejdjhlnlhiaa
open Go.RowKit

/-- page i of a row -/
def pageAt (bs : List UInt8) (i : Nat) : List UInt8 := (bs.drop (i * 64)).take 64
theorem pageAt_length (bs : List UInt8) (i n : Nat) (hl : bs.length = 64 * n) (hi : i < n) : (pageAt bs i).length = 64 := by
  unfold pageAt; rw [List.length_take, List.length_drop]; omega
theorem row_page {w : World} {b off n : Nat} {bs : List UInt8} (hl : bs.length = 64 * n) (hc : ∀ j, j < 64 * n → w.cell? ⟨b, off + j, none⟩ = some (.int .u8 ((bs.getD j 0).toNat : Int))) (i : Nat) (hi : i < n) :
    w.rangeAt b (off + i * 64) (byteVals (pageAt bs i)) := by
  intro j u hu
  have hj : j < (pageAt bs i).length := by
    have := (List.getElem?_eq_some_iff.1 hu).1
    rwa [byteVals_length] at this
  have hj' := hj
  rw [pageAt_length bs i n hl hi] at hj'
  rw [byteVals_at _ j hj] at hu
  have e : bs.getD (i * 64 + j) 0 = (pageAt bs i)[j] := by
    have h1 : (pageAt bs i)[j]? = bs[i * 64 + j]? := by
      unfold pageAt
      rw [List.getElem?_take, if_pos hj', List.getElem?_drop]
    rw [List.getElem?_eq_getElem hj] at h1
    rw [List.getD_eq_getElem?_getD, ← h1]; rfl
  rw [← hu, Nat.add_assoc, hc (i * 64 + j) (by omega), e]
theorem run_neGuard_page (w : World) (x y : Operand) (p q : List UInt8) : (eqGuard .neq 43 x y (pageV p) (pageV q)).run Try.prog w = .ok () w :=
  run_eqGuard_agg w .neq 43 x y _ _ (by kernel_rfl)
theorem run_neq_same (w : World) (p : List UInt8) (hp : p.length = 64) : (binOp .neq 43 (pageV p) (pageV p)).run Try.prog w = .ok (.bool false) w := by
  rw [run_neq_page w p p hp hp]; simp

theorem page_loads {w : World} {b o : Nat} {p : List UInt8} (h : w.rangeAt b o (byteVals p)) (hp : p.length = 64) (m : Nat) : (Instr.loadAt 43 (.pointer (some ⟨b, o, none⟩))).run Try.prog (w.drewN m) = .ok (pageV p) (w.drewN m) :=
  run_loadAt_mid (P := Try.prog) (w.drewN m) b o 43 (byteVals p) _ h Try.underlying43 rfl (by rw [page_info, byteVals_length, hp])
theorem page_loadsV {w : World} {b o : Nat} {p : List UInt8} (h : w.rangeAt b o (byteVals p)) (hp : p.length = 64) (m : Nat) : (loadVar 43 ⟨b, o, none⟩).run Try.prog (w.drewN m) = .ok (pageV p) (w.drewN m) :=
  run_loadVar_mid (P := Try.prog) (w.drewN m) b o 43 (byteVals p) _ h Try.underlying43 rfl (by rw [page_info, byteVals_length, hp])
/-- in a region that only reads: a page is loaded -/
theorem wpQuiet_load_page {ops : Array Oper} {rest : List Oper} {op : Oper} {a : Act} {Q : Act → Prop} {C : World → Prop} {b o : Nat} {p : List UInt8} (hp : p.length = 64) (hr : ∀ w, C w → w.rangeAt b o (byteVals p)) (hgd : op.guard = none) (x : Operand) (ho : op.op = .load 43 x)
    (hx : a.eval x = .pointer (some ⟨b, o, none⟩)) (h : wpQuiet Try.prog ops C Q rest (a.put op.dst (pageV p))) : wpQuiet Try.prog ops C Q (op :: rest) a := by
  refine wpQuiet_step (fun K hK => ?_)
  have hw : Region.wanted op (yielded ops a.tmps) = true := by simp only [Region.wanted, hgd]
  rw [if_pos hw]
  refine ⟨pageV p, fun w hC => ?_, hK _ h⟩
  have hrun : (execOp a.eval op).run Try.prog w = .ok (.value (pageV p)) w := by
    unfold execOp
    simp only [ho, hx, page_loads (hr w hC) hp 0, Sem.run_bind, Sem.run_pure, Result.andThen_ok]
    have := page_loads (hr w hC) hp 0
    rw [show w.drewN 0 = w from rfl] at this
    rw [this]; rfl
  unfold Oper.quietAt
  rw [hrun]
  exact ⟨rfl, rfl⟩
/-- .. a page is held against the same -/
theorem wpQuiet_neq_page {ops : Array Oper} {rest : List Oper} {op : Oper} {a : Act} {Q : Act → Prop} {C : World → Prop} {p : List UInt8} (hp : p.length = 64) (hgd : op.guard = none) (x y : Operand) (ho : op.op = .binOp .neq 43 x y 43)
    (hx : a.eval x = pageV p) (hy : a.eval y = pageV p) (h : wpQuiet Try.prog ops C Q rest (a.put op.dst (.bool false))) : wpQuiet Try.prog ops C Q (op :: rest) a := by
  refine wpQuiet_step (fun K hK => ?_)
  have hw : Region.wanted op (yielded ops a.tmps) = true := by simp only [Region.wanted, hgd]
  rw [if_pos hw]
  refine ⟨.bool false, fun w hC => ?_, hK _ h⟩
  have hrun : (execOp a.eval op).run Try.prog w = .ok (.value (.bool false)) w := by
    unfold execOp
    simp only [ho, hx, hy, run_neGuard_page, run_neq_same w p hp, Sem.run_bind, Sem.run_pure, Result.andThen_ok]
  unfold Oper.quietAt
  rw [hrun]
  exact ⟨rfl, rfl⟩
set_option maxRecDepth 100000 in
set_option maxHeartbeats 1000000 in
theorem same_row (b off b' off' n c c' : Nat) (bs : List UInt8) (w : World) (hn : n ≤ 1000) (hl : bs.length = 64 * n)
    (hc : ∀ j, j < 64 * n → w.cell? ⟨b, off + j, none⟩ = some (.int .u8 ((bs.getD j 0).toNat : Int))) (hc' : ∀ j, j < 64 * n → w.cell? ⟨b', off' + j, none⟩ = some (.int .u8 ((bs.getD j 0).toNat : Int))) :
    Calls Try.prog 10 #[.slice (some ⟨b, off, none⟩) n c, .slice (some ⟨b', off', none⟩) n c'] w fun e w' => e = .returned (.bool true) ∧ ∃ m, w' = w.drewN m := by
  have HC := Lib.hid hc; clear hc
  have HC' := Lib.hid hc'; clear hc'
  have HL := Lib.hid hl; clear hl
  go_enter Try.func10, Try.ntmps10
  go_wp2
  go_loopw [13] (fun i wr => ∃ k : Nat, k ≤ n ∧ i = .int .i64 k ∧ ∃ m, wr = w.drewN m) (fun i _ => n - (intOf i).toNat)
  case atStart => exact ⟨0, Nat.zero_le _, rfl, 0, rfl⟩
  case round =>
    obtain ⟨k, hk, rfl, m, rfl⟩ := hrel
    by_cases hlt : k < n
    · have p1 := row_page HL.out HC.out k hlt
      have p2 := row_page HL.out HC'.out k hlt
      have HP := Lib.hid (pageAt_length bs k n HL.out hlt)
      generalize pageAt bs k = p at p1 p2 HP
      go_wp2
      refine wp_region_quiet_lit (by kernel_rfl) (by kernel_rfl) ?_
      iterate 3 (go_big_quiet_step (fail))
      refine wpQuiet_load_page HP.out (fun w' hw' => ?_) rfl (.tmp 18) rfl rfl ?_
      · obtain ⟨j, rfl⟩ := hw'; exact p1
      (try simp only [Act.put, List.setIfInBounds_toArray, List.set_cons_zero, List.set_cons_succ])
      iterate 3 (go_big_quiet_step (fail))
      refine wpQuiet_load_page HP.out (fun w' hw' => ?_) rfl (.tmp 22) rfl rfl ?_
      · obtain ⟨j, rfl⟩ := hw'; exact p2
      (try simp only [Act.put, List.setIfInBounds_toArray, List.set_cons_zero, List.set_cons_succ])
      refine wpQuiet_neq_page HP.out rfl (.tmp 19) (.tmp 23) rfl rfl rfl ?_
      (try simp only [Act.put, List.setIfInBounds_toArray, List.set_cons_zero, List.set_cons_succ])
      refine wpQuiet_nil ?_
      rintro w' ⟨j, rfl⟩
      clear p1 p2
      go_wp2
      go_roundw
      case rel => exact ⟨k + 1, by omega, by go_num, _, rfl⟩
      case measure => simp [intOf]; omega
    · go_wp2
      go_ret
      exact ⟨rfl, m, rfl⟩
set_option maxRecDepth 100000 in
set_option maxHeartbeats 1000000 in
theorem same_zero (A A' : Option Addr) (c c' : Nat) (w : World) :
    Calls Try.prog 10 #[.slice A 0 c, .slice A' 0 c'] w fun e w' => e = .returned (.bool true) ∧ ∃ m, w' = w.drewN m := by
  go_enter Try.func10, Try.ntmps10
  go_wp2
  go_loopw [13] (fun i wr => i = .int .i64 0 ∧ wr = w) (fun _ _ => 0)
  case atStart => exact ⟨rfl, rfl⟩
  case round =>
    obtain ⟨rfl, rfl⟩ := hrel
    go_wp2
    go_ret
    exact ⟨rfl, 0, rfl⟩
theorem same_any (A A' : Option Addr) (n c c' : Nat) (bs : List UInt8) (w : World) (h : Row w A n bs) (h' : Row w A' n bs) (hn : n ≤ 1000) :
    Calls Try.prog 10 #[.slice A n c, .slice A' n c'] w fun e w' => e = .returned (.bool true) ∧ ∃ m, w' = w.drewN m := by
  by_cases h0 : n = 0
  · subst h0; exact same_zero A A' c c' w
  · obtain ⟨b, off, rfl, _, hc⟩ := h.cells (by omega)
    obtain ⟨b', off', rfl, _, hc'⟩ := h'.cells (by omega)
    exact same_row b off b' off' n c c' bs w hn h.len hc hc'

/-! ### numbers -/
/-- a row of numbers in memory -/
structure NumRow (w : World) (A : Option Addr) (n : Nat) (zs : List Nat) : Prop where
  len : zs.length = n
  cells : 0 < n → ∃ b off, A = some ⟨b, off, none⟩ ∧ b < w.heap.size ∧ ∀ j, j < n → w.cell? ⟨b, off + j, none⟩ = some (.int .i64 ((zs.getD j 0 : Nat) : Int))
theorem NumRow.keep {w w' : World} {A : Option Addr} {n : Nat} {zs : List Nat} (h : NumRow w A n zs) (hs : w.heap.size ≤ w'.heap.size) (hb : ∀ b off, A = some ⟨b, off, none⟩ → b < w.heap.size → w'.heap[b]? = w.heap[b]?) : NumRow w' A n zs where
  len := h.len
  cells := fun hn => by
    obtain ⟨b, off, rfl, hlt, hc⟩ := h.cells hn
    exact ⟨b, off, rfl, Nat.lt_of_lt_of_le hlt hs, fun j hj => (World.cell?_of_block (a := ⟨b, off + j, none⟩) (hb b off rfl hlt)).trans (hc j hj)⟩
theorem NumRow.step {w w' : World} {A : Option Addr} {n : Nat} {zs : List Nat} (h : NumRow w A n zs) (hb : Below w.heap.size w w') : NumRow w' A n zs :=
  h.keep hb.size fun b _ _ hlt => hb.block b hlt
theorem NumRow.take {w : World} {A : Option Addr} {n : Nat} {zs : List Nat} (h : NumRow w A n zs) (k : Nat) (hk : k ≤ n) : NumRow w A k (zs.take k) where
  len := by rw [List.length_take, h.len]; omega
  cells := fun h0 => by
    obtain ⟨b, off, e, hlt, hc⟩ := h.cells (by omega)
    refine ⟨b, off, e, hlt, fun j hj => ?_⟩
    rw [hc j (by omega), List.getD_eq_getElem?_getD, List.getD_eq_getElem?_getD, List.getElem?_take, if_pos hj]
set_option maxRecDepth 100000 in
set_option maxHeartbeats 1000000 in
theorem nums_row (b off b' off' n c c' : Nat) (zs : List Nat) (w : World) (hn : n ≤ 1000000)
    (hc : ∀ j, j < n → w.cell? ⟨b, off + j, none⟩ = some (.int .i64 ((zs.getD j 0 : Nat) : Int))) (hc' : ∀ j, j < n → w.cell? ⟨b', off' + j, none⟩ = some (.int .i64 ((zs.getD j 0 : Nat) : Int))) :
    Calls Try.prog 14 #[.slice (some ⟨b, off, none⟩) n c, .slice (some ⟨b', off', none⟩) n c'] w fun e w' => e = .returned (.bool true) ∧ ∃ m, w' = w.drewN m := by
  have HC := Lib.hid hc; clear hc
  have HC' := Lib.hid hc'; clear hc'
  go_enter Try.func14, Try.ntmps14
  go_wp2
  go_loopw [5] (fun i wr => ∃ k : Nat, k ≤ n ∧ i = .int .i64 k ∧ ∃ m, wr = w.drewN m) (fun i _ => n - (intOf i).toNat)
  case atStart => exact ⟨0, Nat.zero_le _, rfl, 0, rfl⟩
  case round =>
    obtain ⟨k, hk, rfl, m, rfl⟩ := hrel
    by_cases hlt : k < n
    · have p1 := HC.out k hlt
      have p2 := HC'.out k hlt
      generalize zs.getD k 0 = z at p1 p2
      go_wp2
      go_quiet (fail)
      go_wp2
      go_roundw
      case rel => exact ⟨k + 1, by omega, by go_num, _, rfl⟩
      case measure => simp [intOf]; omega
    · go_wp2
      go_ret
      exact ⟨rfl, m, rfl⟩
set_option maxRecDepth 100000 in
set_option maxHeartbeats 1000000 in
theorem nums_zero (A A' : Option Addr) (c c' : Nat) (w : World) :
    Calls Try.prog 14 #[.slice A 0 c, .slice A' 0 c'] w fun e w' => e = .returned (.bool true) ∧ ∃ m, w' = w.drewN m := by
  go_enter Try.func14, Try.ntmps14
  go_wp2
  go_loopw [5] (fun i wr => i = .int .i64 0 ∧ wr = w) (fun _ _ => 0)
  case atStart => exact ⟨rfl, rfl⟩
  case round =>
    obtain ⟨rfl, rfl⟩ := hrel
    go_wp2
    go_ret
    exact ⟨rfl, 0, rfl⟩
theorem nums_any (A A' : Option Addr) (n c c' : Nat) (zs : List Nat) (w : World) (h : NumRow w A n zs) (h' : NumRow w A' n zs) (hn : n ≤ 1000000) :
    Calls Try.prog 14 #[.slice A n c, .slice A' n c'] w fun e w' => e = .returned (.bool true) ∧ ∃ m, w' = w.drewN m := by
  by_cases h0 : n = 0
  · subst h0; exact nums_zero A A' c c' w
  · obtain ⟨b, off, rfl, _, hc⟩ := h.cells (by omega)
    obtain ⟨b', off', rfl, _, hc'⟩ := h'.cells (by omega)
    exact nums_row b off b' off' n c c' zs w hn hc hc'
end Go.Proofs.Ytjjejdjhlnlhiaa
