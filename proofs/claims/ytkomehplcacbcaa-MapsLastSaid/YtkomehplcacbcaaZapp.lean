/-
  An entry that is appended to a map's own slice, and the slice stored: the kinds of worlds of such a region.
-/
import Derived.Test.YtkomehplcacbcaaZdel
import Derived.Test.YtkomehplcacbcaaHlim
import Derived.Test.YtkomehplcacbcaaAlin
namespace Go.Proofs.Ytkomehplcacbcaa
open Go.RowKit Go.Maps

def kd (lru : Bool) : Value := .int .i64 (match lru with | true => 2 | false => 1)
/-- a map on its way through a call, and a row beside it -/
structure InS (et : TypeId) (hd : Value) (w0 : World) (base b : Nat) (sv0 : Value) (room : Nat) (l : List Z.En) (B : Nat) (vs : List Value) (W : World) (sv : Value) : Prop where
  way : MpTo et hd w0 base b sv0 room l W sv
  row : RowAt W B vs
  pos : 0 < vs.length
  far : ¬ Foot b sv B
  old : w0.heap.size ≤ B
theorem InS.lt {et : TypeId} {hd : Value} {w0 : World} {base b : Nat} {sv0 : Value} {room : Nat} {l : List Z.En} {B : Nat} {vs : List Value} {W : World} {sv : Value} (k : InS et hd w0 base b sv0 room l B vs W sv) : B < W.heap.size := rows_lt k.row k.pos
theorem InS.call {et : TypeId} {hd : Value} {w0 : World} {base b : Nat} {sv0 : Value} {room : Nat} {l : List Z.En} {B : Nat} {vs : List Value} {W W' : World} {sv : Value} (k : InS et hd w0 base b sv0 room l B vs W sv) (hb : Below W.heap.size W W') : InS et hd w0 base b sv0 room l B vs W' sv :=
  ⟨k.way.call hb, k.row.below hb k.lt, k.pos, k.far, k.old⟩
theorem InS.turn {et : TypeId} {hd : Value} {w0 : World} {base b : Nat} {sv0 : Value} {room : Nat} {l l' : List Z.En} {B : Nat} {vs : List Value} {W W' : World} {sv sv' : Value} (k : InS et hd w0 base b sv0 room l B vs W sv) (hb : MpTo et hd W base b sv room l' W' sv') : InS et hd w0 base b sv0 room l' B vs W' sv' :=
  ⟨k.way.trans hb, k.row.of_block (hb.but.block B k.lt k.far), k.pos, fun hf => by
    rcases hf with e | hf
    · exact k.far (Or.inl e)
    · rcases hb.new B hf with h1 | h1
      · exact k.far (Or.inr h1)
      · have := k.lt
        omega, k.old⟩
inductive PK
  | a
  | b
  | c (v : Value)
  | d (v : Value)
def ApS (et : TypeId) (hd : Value) (wx : World) (base b : Nat) (sv : Value) (room : Nat) (l : List Z.En) (x : Z.En) : PK → World → Prop
  | .a, W => W = wx
  | .b, W => W = wx.alloc (.cells (enL x).toArray et)
  | .c v, W => W.ownsRow base et 5 v (l ++ [x]).length (cellsE (l ++ [x])) ∧ But (fun k => sv.ownBlock = some k) wx W ∧ (∀ k, v.ownBlock = some k → sv.ownBlock = some k ∨ wx.heap.size ≤ k)
  | .d v, W => MpTo et hd wx base b sv room (l ++ [x]) W v
def apMay (L : Nat) : PK → Nat → Bool
  | .d _, k => !(k == L)
  | _, _ => true
theorem apMay_no {ops : Array Oper} {L i : Nat} {s : PK} {N : Value → PK → Prop} (h : ∀ u s', N u s' → s' = .b ∨ ∃ v, s' = .c v) : Lost .any ops (apMay L) s i N := lost_no fun u s' hu k => by
  rcases h u s' hu with rfl | ⟨v, rfl⟩ <;> rfl
theorem apMay_last {ops : Array Oper} {L i : Nat} {s : PK} {v : Value} (h : [L].all (predB ops i) = true) : Lost .any ops (apMay L) s i (fun _ s' => s' = .d v) := lost_those [L] h fun u s' hu k hk => by
  subst hu
  simp only [apMay, Bool.not_eq_false', beq_iff_eq] at hk
  simp [hk]
section
variable {et : TypeId} {hd : Value} {wx : World} {base b : Nat} {sv : Value} {room : Nat} {l : List Z.En} {x : Z.En}
theorem ApS.but {s : PK} {W : World} (h0 : MpAt et hd wx base b sv room l) (h : ApS et hd wx base b sv room l x s W) : But (Foot b sv) wx W := by
  cases s with
  | a => rw [show W = wx from h]; exact But.refl _ _
  | b => rw [show W = _ from h]; exact But.alloc _ _ _
  | c v => exact h.2.1.mono (fun k hk => Or.inl (Or.inr hk))
  | d v => exact MpTo.but (show MpTo et hd wx base b sv room (l ++ [x]) W v from h)
theorem ApS.row {s : PK} {W : World} (h0 : MpAt et hd wx base b sv room l) (h : ApS et hd wx base b sv room l x s W) {L : Nat} (hm : apMay L s L = true) : RowAt W b [hd, .int .i64 (room : Int), sv] := by
  cases s with
  | a => rw [show W = wx from h]; exact h0.row
  | b => rw [show W = _ from h]; exact h0.row.alloc _
  | c v => exact h0.row.but h.2.1 (fun e => h0.ne e)
  | d v => simp [apMay] at hm
theorem ApS.other {s : PK} {W : World} {B : Nat} {v : Value} {vs : List Value} (h0 : MpAt et hd wx base b sv room l) (hr : RowAt wx B (v :: vs)) (hf : ¬ Foot b sv B) (h : ApS et hd wx base b sv room l x s W) : RowAt W B (v :: vs) := hr.but (h.but h0) hf
end
theorem run_ld_row {t : TypeId} {n : Nat} (ht : RowT t n) {ρ : Operand → Value} {op : Oper} {w : World} {b : Nat} {vs : List Value} (k : RowAt w b vs) (hl : vs.length = n) (x : Operand) (ho : op.op = .load t x) (hx : ρ x = .pointer (some ⟨b, 0, none⟩)) :
    (execOp ρ op).run Try.prog w = .ok (.value (.agg vs.toArray)) w := by
  unfold execOp
  have := k.loads ht hl
  simp only [ho, hx, Instr.loadAt, Instr.sureAddr, Sem.run_bind, Sem.run_pure, Result.andThen_ok, this]
theorem run_store_slice {t : TypeId} (ht : t = 46 ∨ t = 41) {ρ : Operand → Value} {op : Oper} {w : World} {b o : Nat} {u : Value} {A : Option Addr} {n c : Nat} (x y : Operand) (ho : op.op = .store t x y) (hx : ρ x = .pointer (some ⟨b, o, none⟩)) (hy : ρ y = .slice A n c)
    (hc : w.cell? ⟨b, o, none⟩ = some u) (hf : w.frozen? ⟨b, o, none⟩ = false) : (execOp ρ op).run Try.prog w = .ok .skip (w.setCell ⟨b, o, none⟩ (.slice A n c)) := by
  unfold execOp
  simp only [ho, hx, hy]
  rcases ht with rfl | rfl
  · go_simp
  · go_simp
theorem gives_skip {P : Program} {m : Sem Next} {w w' : World} {R : Value → World → Prop} (h : m.run P w = .ok .skip w') (hR : R undef w') : Gives P m w R := by
  unfold Gives; rw [h]; exact hR
theorem run_oneE (t st : TypeId) (ht : t = 62 ∧ st = 46 ∨ t = 67 ∧ st = 41) (x : Z.En) (w : World) : (Instr.buildSlice st 1 #[(0, enV x)]).run Try.prog w = .ok (.slice (some ⟨w.heap.size, 0, none⟩) 1 1) (w.alloc (.cells (enL x).toArray t)) := by
  rcases ht with ⟨rfl, rfl⟩ | ⟨rfl, rfl⟩
  · unfold enV enL
    go_simp
  · unfold enV enL
    go_simp
theorem exec_oneE {t st : TypeId} (ht : t = 62 ∧ st = 46 ∨ t = 67 ∧ st = 41) {ρ : Operand → Value} {op : Oper} {w : World} {x : Z.En} (y : Operand) (ho : op.op = .buildSlice st 1 #[(0, y)]) (hy : ρ y = .agg (enL x).toArray) :
    (execOp ρ op).run Try.prog w = .ok (.value (.slice (some ⟨w.heap.size, 0, none⟩) 1 1)) (w.alloc (.cells (enL x).toArray t)) := by
  have hr := run_oneE t st ht x w
  have hy' : ρ y = enV x := hy
  unfold execOp
  simp only [ho, List.map_toArray, List.map_cons, List.map_nil, hy', Sem.run_bind, hr, Result.andThen_ok, Sem.run_pure]
section
variable {hd : Value} {wx : World} {base b : Nat} {sv : Value} {room : Nat} {l : List Z.En} {x : Z.En}
/-- the three turns -/
theorem ap_build {t st : TypeId} (ht : t = 62 ∧ st = 46 ∨ t = 67 ∧ st = 41) {a : Act} {op : Oper} {W : World} (h : ApS t hd wx base b sv room l x .a W) (y : Operand) (ho : op.op = .buildSlice st 1 #[(0, y)]) (hy : a.eval y = .agg (enL x).toArray) :
    Gives Try.prog (execOp a.eval op) W fun u w' => ∃ s', (u = .slice (some ⟨wx.heap.size, 0, none⟩) 1 1 ∧ s' = PK.b) ∧ ApS t hd wx base b sv room l x s' w' := by
  rw [show W = wx from h]
  exact gives_to (exec_oneE ht y ho hy) ⟨.b, ⟨rfl, rfl⟩, rfl⟩
theorem ap_append {t st : TypeId} (ht : t = 62 ∧ st = 46 ∨ t = 67 ∧ st = 41) {a : Act} {op : Oper} {W : World} (h0 : MpAt t hd wx base b sv room l) (hn : l.length ≤ 1000) (hbw : base ≤ wx.heap.size) (h : ApS t hd wx base b sv room l x .b W) (y z : Operand)
    (ho : op.op = .call { callee := .builtin .append, args := #[y, z], argTypes := #[st, st] }) (hy : a.eval y = sv) (hz : a.eval z = .slice (some ⟨wx.heap.size, 0, none⟩) 1 1) :
    Gives Try.prog (execOp a.eval op) W fun u w' => ∃ s', s' = PK.c u ∧ ApS t hd wx base b sv room l x s' w' := by
  rw [show W = _ from h]
  obtain ⟨i0, hi0, hz0, hs0, hb0⟩ : ∃ i, Try.prog.info? t = some i ∧ i.zero = some (.agg #[.int .i64 0, .int .i64 0, .int .i64 0, .int .i64 0, .int .i64 0]) ∧ i.size = 5 ∧ i.bytes = 40 := by
    rcases ht with ⟨rfl, rfl⟩ | ⟨rfl, rfl⟩
    · exact info_parts info_en
    · exact info_parts info_ren
  have hu : Try.prog.underlying st = some (.slice t) := by
    rcases ht with ⟨rfl, rfl⟩ | ⟨rfl, rfl⟩
    · exact Try.underlying46
    · exact Try.underlying41
  refine gives_append y z st ho base t i0 _ 5 40 hu hi0 hz0 hs0 hb0 rfl (by omega) sv l.length (cellsE l) hy (h0.own.alloc _) ⟨wx.heap.size, 0, none⟩ 1 1 (enL x) hz rfl (cell_new wx (enL x) t) (enL_one x) (by unfold maxLen; omega) (by omega) (by simp; omega) ?_
  intro v' w' hown hg _ hloc
  refine ⟨.c v', rfl, by rw [cellsE_snoc, List.length_append]; exact hown, (But.alloc (fun k => sv.ownBlock = some k) wx _).trans (But.of_grown hg) (fun k hk => Or.inl hk), fun k hk => ?_⟩
  rcases hloc with e | e
  · exact Or.inl (by rw [← e]; exact hk)
  · rw [e] at hk
    injection hk with hk
    rw [← hk]
    exact Or.inr (by simp)
theorem ap_store {t st : TypeId} (ht : st = 46 ∨ st = 41) {a : Act} {op : Oper} {W : World} {v : Value} (h0 : MpAt t hd wx base b sv room l) (h : ApS t hd wx base b sv room l x (.c v) W) (y z : Operand)
    (ho : op.op = .store st y z) (hy : a.eval y = .pointer (some ⟨b, 2, none⟩)) (hz : a.eval z = v) :
    Gives Try.prog (execOp a.eval op) W fun _ w' => ∃ s', s' = PK.d v ∧ ApS t hd wx base b sv room l x s' w' := by
  obtain ⟨A, c, rfl⟩ := owns_slice h.1
  have hr : RowAt W b [hd, .int .i64 (room : Int), sv] := h0.row.but h.2.1 (fun e => h0.ne e)
  exact gives_skip (run_store_slice ht y z ho hy hz (hr.cell 2 _ rfl) (hr.frozen 2 (show 2 < 3 by decide))) ⟨.d _, rfl, MpTo.stored h0 h.2.1 h.1 h.2.2⟩
theorem ap_load {t st : TypeId} (ht : st = 46 ∨ st = 41) {ρ : Operand → Value} {op : Oper} {W : World} {L : Nat} {s : PK} (h0 : MpAt t hd wx base b sv room l) (hm : apMay L s L = true) (h : ApS t hd wx base b sv room l x s W) (y : Operand)
    (ho : op.op = .load st y) (hy : ρ y = .pointer (some ⟨b, 2, none⟩)) : (execOp ρ op).run Try.prog W = .ok (.value sv) W := by
  have hc := (h.row h0 hm).cell 2 _ rfl
  unfold execOp
  simp only [ho, hy]
  rcases ht with rfl | rfl
  · go_simp
  · go_simp
end
end Go.Proofs.Ytkomehplcacbcaa
