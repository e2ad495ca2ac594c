/-
  DiskPlays: both disks beside each other; a call that is laid into a variable.
-/
import Derived.Test.YtaiikpfgnamgiaaDrefxw
namespace Go.Proofs.Ytaiikpfgnamgiaa
open Go.RowKit
open Dk (zeros zeros_length)

structure PlayAt (w0 : World) (d l m r a b c n : Nat) (s t : Dk.St) (W : World) : Prop where
  disk : DiskAt W d l m s
  ref : RefAt W r a b c t
  below : Below w0.heap.size w0 W
  slen : s.last.length = n
  tlen : t.last.length = n
  old : ∀ k ∈ [d, l, m, r, a, b, c], w0.heap.size ≤ k
  apart : ∀ x ∈ [d, l, m], ∀ y ∈ [r, a, b, c], x ≠ y
theorem PlayAt.byBelow {w0 : World} {d l m r a b c n : Nat} {s t : Dk.St} {W W' : World} (h : PlayAt w0 d l m r a b c n s t W) (hb : Below W.heap.size W W') : PlayAt w0 d l m r a b c n s t W' :=
  ⟨h.disk.below hb, h.ref.below hb, h.below.trans (hb.mono h.below.size), h.slen, h.tlen, h.old, h.apart⟩
theorem PlayAt.drewN {w0 : World} {d l m r a b c n : Nat} {s t : Dk.St} {W : World} (h : PlayAt w0 d l m r a b c n s t W) (k : Nat) : PlayAt w0 d l m r a b c n s t (W.drewN k) :=
  ⟨h.disk.drewN k, h.ref.blocks rfl rfl rfl rfl, ⟨h.below.os, h.below.tape, h.below.output, h.below.size, h.below.block⟩, h.slen, h.tlen, h.old, h.apart⟩
theorem PlayAt.byDisk {w0 : World} {d l m r a b c n : Nat} {s s' t : Dk.St} {W W' : World} {L : List Nat} (h : PlayAt w0 d l m r a b c n s t W) (hd : DiskAt W' d l m s') (ho : Only L W W') (hL : ∀ k ∈ L, k ∈ [d, l, m]) (hs : s'.last.length = s.last.length) : PlayAt w0 d l m r a b c n s' t W' where
  disk := hd
  ref := h.ref.only ho (fun e => h.apart r (hL r e) r (by simp) rfl) (fun e => h.apart a (hL a e) a (by simp) rfl) (fun e => h.apart b (hL b e) b (by simp) rfl) (fun e => h.apart c (hL c e) c (by simp) rfl)
  below := Only.toBelowOld h.below ho h.below.size (fun k hk => h.old k (by have := hL k hk; simp at this ⊢; omega))
  slen := hs.trans h.slen
  tlen := h.tlen
  old := h.old
  apart := h.apart
theorem PlayAt.byRef {w0 : World} {d l m r a b c n : Nat} {s t t' : Dk.St} {W W' : World} {L : List Nat} (h : PlayAt w0 d l m r a b c n s t W) (hr : RefAt W' r a b c t') (ho : Only L W W') (hL : ∀ k ∈ L, k ∈ [r, a, b, c]) (hs : t'.last.length = t.last.length) : PlayAt w0 d l m r a b c n s t' W' where
  disk := h.disk.only ho (fun e => h.apart d (by simp) d (hL d e) rfl) (fun e => h.apart l (by simp) l (hL l e) rfl) (fun e => h.apart m (by simp) m (hL m e) rfl)
  ref := hr
  below := Only.toBelowOld h.below ho h.below.size (fun k hk => h.old k (by have := hL k hk; simp at this ⊢; omega))
  slen := h.slen
  tlen := hs.trans h.tlen
  old := h.old
  apart := h.apart
theorem PlayAt.byOther {w0 : World} {d l m r a b c n x : Nat} {s t : Dk.St} {W W' : World} (h : PlayAt w0 d l m r a b c n s t W) (ho : Only [x] W W') (hx : x ∉ [d, l, m, r, a, b, c]) (hx0 : w0.heap.size ≤ x) : PlayAt w0 d l m r a b c n s t W' := by
  simp at hx
  exact ⟨h.disk.only ho (by simp; omega) (by simp; omega) (by simp; omega), h.ref.only ho (by simp; omega) (by simp; omega) (by simp; omega) (by simp; omega), Only.toBelowOld h.below ho h.below.size (fun k hk => by simp at hk; omega), h.slen, h.tlen, h.old, h.apart⟩
theorem PlayAt.lts {w0 : World} {d l m r a b c n : Nat} {s t : Dk.St} {W : World} (h : PlayAt w0 d l m r a b c n s t W) : ∀ k ∈ [d, l, m, r, a, b, c], k < W.heap.size := fun k hk => by
  simp at hk
  rcases hk with rfl | rfl | rfl | rfl | rfl | rfl | rfl
  · exact h.disk.dlt
  · exact h.disk.llt
  · exact h.disk.mlt
  · exact h.ref.rlt
  · exact h.ref.alt
  · exact h.ref.blt
  · exact h.ref.clt
theorem PlayAt.start (w0 w1 : World) (hw : Below w0.heap.size w0 w1) (n : Nat) (h1 : 1 ≤ n) (h2 : n ≤ 512) {e : Ending} {W : World} (h : NewRef (newWorld w1 n) n e W) :
    ∃ r a b c, e = .returned (.pointer (some ⟨r, 0, none⟩)) ∧ PlayAt w0 (w1.heap.size + 2) w1.heap.size (w1.heap.size + 1) r a b c n (Dk.fresh n) (Dk.fresh n) W := by
  obtain ⟨r, a, b, c, he, hr, hb, o1, o2, o3, o4⟩ := h
  have hz := newWorld_size w1 n
  have hw0 := hw.size
  refine ⟨r, a, b, c, he, (newWorld_disk w1 n h1 h2).below hb, hr, (hw.trans ((newWorld_below w1 n).mono hw.size)).trans (hb.mono (by omega)), by unfold Dk.fresh; simp, by unfold Dk.fresh; simp, ?_, ?_⟩
  · intro k hk
    simp at hk
    omega
  · intro x hx y hy
    simp at hx hy
    omega

/-! ### a call in a variable -/
structure OpVar (W : World) (B : Nat) (o : OpV) : Prop where
  k : W.cell? ⟨B, 0, none⟩ = some (.int .i64 o.K)
  n : W.cell? ⟨B, 1, none⟩ = some (.int .i64 o.N)
  page : W.rangeAt B 2 (byteVals o.page)
  keep : W.cell? ⟨B, 66, none⟩ = some (.slice o.A o.n o.c)
theorem OpVar.block {W W' : World} {B : Nat} {o : OpV} (h : OpVar W B o) (hb : W'.heap[B]? = W.heap[B]?) : OpVar W' B o :=
  ⟨(World.cell?_of_block (w := W) (a := ⟨B, 0, none⟩) hb).trans h.k, (World.cell?_of_block (w := W) (a := ⟨B, 1, none⟩) hb).trans h.n, rangeAt_block h.page hb, (World.cell?_of_block (w := W) (a := ⟨B, 66, none⟩) hb).trans h.keep⟩
theorem OpVar.lt {W : World} {B : Nat} {o : OpV} (h : OpVar W B o) : B < W.heap.size := World.block_lt_of_cell? W _ h.k
theorem OpVar.byBelow {W W' : World} {B : Nat} {o : OpV} (h : OpVar W B o) (hb : Below W.heap.size W W') : OpVar W' B o := h.block (hb.block B h.lt)
theorem OpVar.byOnly {W W' : World} {B : Nat} {o : OpV} {L : List Nat} (h : OpVar W B o) (ho : Only L W W') (hB : B ∉ L) : OpVar W' B o := h.block (ho.block B h.lt hB)
theorem opVar_of {W : World} {B : Nat} {o : OpV} (hp : o.page.length = 64) (h : W.rangeAt B 0 (opVals o)) : OpVar W B o where
  k := by
    have := h 0 _ (show (opVals o)[0]? = some (.int .i64 o.K) from rfl)
    rwa [Nat.zero_add] at this
  n := by
    have := h 1 _ (show (opVals o)[1]? = some (.int .i64 o.N) from rfl)
    rwa [Nat.zero_add] at this
  page := fun j v hv => by
    have hj : j < 64 := by
      have := (List.getElem?_eq_some_iff.1 hv).1
      rw [byteVals_length, hp] at this; exact this
    have := h (2 + j) v (by
      unfold opVals
      rw [Nat.add_comm 2 j]
      show ((byteVals o.page ++ [.slice o.A o.n o.c]))[j]? = some v
      rw [List.getElem?_append_left (by rw [byteVals_length, hp]; exact hj)]
      exact hv)
    rwa [Nat.zero_add] at this
  keep := by
    have := h 66 (.slice o.A o.n o.c) (by
      unfold opVals
      show ((byteVals o.page ++ [.slice o.A o.n o.c]))[64]? = some _
      rw [List.getElem?_append_right (by rw [byteVals_length, hp]; exact Nat.le_refl _), byteVals_length, hp]; rfl)
    rwa [Nat.zero_add] at this
theorem opVals_one (o : OpV) : ∀ v ∈ opVals o, v.oneCell' = true := by
  intro v hv
  unfold opVals at hv
  simp only [List.mem_cons, List.mem_append, List.not_mem_nil, or_false] at hv
  rcases hv with rfl | rfl | hv | rfl
  · rfl
  · rfl
  · exact byteVals_one _ v hv
  · rfl
theorem op_info : (Try.prog.info? 34).map (·.size) = some 67 := by kernel_rfl
theorem op_row : ∃ d, Try.prog.underlying 34 = some d ∧ d.isRow = true := ⟨_, Try.underlying34, rfl⟩
def opZero : Array Value := (opVals ⟨0, 0, zeros, none, 0, 0, []⟩).toArray
theorem opZero_size : opZero.size = 67 := by unfold opZero opVals; simp [byteVals_length, zeros_length]
theorem zeroOp (w : World) : (zeroValue 34).run Try.prog w = .ok (.agg opZero) w := by kernel_rfl
/-- a call is loaded out of its slice -/
theorem wpList_load_op {ops : Array Oper} {rest : List Oper} {op : Oper} {a : Act} {Q : Exit → Act → World → Prop} {w : World} {b o : Nat} {x : OpV} (hx : (opVals x).length = 67) (h : w.rangeAt b o (opVals x)) (hgd : op.guard = none) (y : Operand) (ho : op.op = .load 34 y)
    (hy : a.eval y = .pointer (some ⟨b, o, none⟩)) (hK : wpList Try.prog ops Q rest (a.put op.dst (.agg (opVals x).toArray)) w) : wpList Try.prog ops Q (op :: rest) a w := by
  obtain ⟨dd, h1, h2⟩ := op_row
  exact wpList_load_mid hgd 34 y ho b o hy (opVals x) dd h h1 h2 (by rw [op_info, hx]) hK
/-- and laid into a new variable -/
theorem wpList_store_op {ops : Array Oper} {rest : List Oper} {op : Oper} {a : Act} {Q : Exit → Act → World → Prop} {w : World} {Z : Array Value} {t : TypeId} {v : OpV} (hp : v.page.length = 64) (hgd : op.guard = none) (x y : Operand) (ho : op.op = .store 34 x y)
    (hx : a.eval x = .pointer (some ⟨w.heap.size, 0, none⟩)) (hy : a.eval y = .agg (opVals v).toArray) (hZ : Z.size = 67)
    (h : ∀ W2, OpVar W2 w.heap.size v → Below w.heap.size w W2 → W2.heap.size = w.heap.size + 1 → wpList Try.prog ops Q rest (a.put op.dst undef) W2) :
    wpList Try.prog ops Q (op :: rest) a (w.alloc (.cells Z t)) := by
  have hl : (opVals v).length = 67 := by unfold opVals; simp [byteVals_length, hp]
  have hlen : (opVals v).toArray.size = 67 := by rw [List.size_toArray, hl]
  have ht : (w.alloc (.cells Z t)).there w.heap.size 0 67 := there_new w Z t _ (by omega)
  refine wpList_store_mid hgd 34 x y ho w.heap.size 0 (opVals v).toArray hx hy (by rw [hlen]; exact ht) (by rw [op_info, hlen]) (all_oneCell_toArray (opVals_one v)) (h _ ?_ ?_ ?_)
  · exact opVar_of hp (World.rangeAt_setCells_same _ _ _ _ (by rw [List.toList_toArray, hl]; exact ht))
  · exact below_setCells _ (Nat.le_refl _) _ _ _ ((Below.refl _ _).alloc (Nat.le_refl _) _)
  · rw [heap_setCells]; simp
/-- a page is loaded out of the variable -/
theorem wpList_load_opPage {ops : Array Oper} {rest : List Oper} {op : Oper} {a : Act} {Q : Exit → Act → World → Prop} {w : World} {B : Nat} {v : OpV} (h : OpVar w B v) (hp : v.page.length = 64) (hgd : op.guard = none) (y : Operand) (ho : op.op = .load 31 y)
    (hy : a.eval y = .pointer (some ⟨B, 2, none⟩)) (hK : wpList Try.prog ops Q rest (a.put op.dst (pageV v.page)) w) : wpList Try.prog ops Q (op :: rest) a w :=
  wpList_load_mid hgd 31 y ho B 2 hy (byteVals v.page) _ h.page Try.underlying31 rfl (by rw [page_info, byteVals_length, hp]) hK
/-- where the ways through the switch meet: both answers are one number, both disks one state -/
def Meet (w0 : World) (d l m r a b c n B : Nat) (o : OpV) (g h : Value) (W : World) : Prop := ∃ (E : Int) (s : Dk.St), g = .int .i64 E ∧ h = .int .i64 E ∧ PlayAt w0 d l m r a b c n s s W ∧ OpVar W B o
theorem flush_len' (s : Dk.St) : (Dk.flush s).last.length = s.last.length := Dk.flush_len s
end Go.Proofs.Ytaiikpfgnamgiaa
