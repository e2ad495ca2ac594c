/-
  The kinds of worlds of the two great regions of MapsMake.
-/
import Derived.Test.YtkomehplcacbcaaZdm
import Derived.BigQuiet
namespace Go.Proofs.Ytkomehplcacbcaa
open Go.ChangeShapes Go.WideShapes Go.ChangeAt Go.RowKit Go.Maps

inductive QK
  | a
  | b
  | c
def QkS (w : World) (base n : Nat) (v u : Value) (bs cs : List Nat) (d1 d2 : List Dt) : QK → World → Prop
  | .a, W => Inv w base n v u bs cs d1 d1 W
  | .b, W => Inv w base n v u bs cs d2 d1 W
  | .c, W => Inv w base n v u bs cs d2 d2 W
theorem QkS.rptr {w : World} {base n : Nat} {v : Value} {gu c1 : Nat} {bs cs : List Nat} {d1 d2 : List Dt} {s : QK} {W : World} (h : QkS w base n v (.slice (some ⟨gu, 0, none⟩) n c1) bs cs d1 d2 s W) {i : Nat} (hi : i < n) {cb : Nat} (hcb : cb = cs.getD i 0) : W.cell? ⟨gu, i, none⟩ = some (.pointer (some ⟨cb, 0, none⟩)) := by
  have key : ∀ dp dr, Inv w base n v (.slice (some ⟨gu, 0, none⟩) n c1) bs cs dp dr W → W.cell? ⟨gu, i, none⟩ = some (.pointer (some ⟨cb, 0, none⟩)) := fun dp dr h => by
    obtain ⟨g, c, e1, _, e3⟩ := inv_rptr h hi
    injection e1 with e1 _ _
    injection e1 with e1
    injection e1 with e1
    rw [e1, hcb]
    exact e3
  cases s with
  | a => exact key _ _ h
  | b => exact key _ _ h
  | c => exact key _ _ h
inductive FK
  | a
  | c (A : Option Addr)
  | d (A : Option Addr)
  | e
def FkS (w : World) (base n : Nat) (v u : Value) (bs cs : List Nat) (ms : List Mp) (l : List Z.En) : FK → World → Prop
  | .a, W => InvM w base n v u bs cs ms W
  | .c A, W => InvM w base n v u bs cs ms W ∧ EnsAt W A l.length l
  | .d A, W => InvM w base n v u bs cs ms W ∧ EnsAt W A l.length l
  | .e, W => InvM w base n v u bs cs ms W
theorem FkS.inv {w : World} {base n : Nat} {v u : Value} {bs cs : List Nat} {ms : List Mp} {l : List Z.En} {s : FK} {W : World} (h : FkS w base n v u bs cs ms l s W) : InvM w base n v u bs cs ms W := by
  cases s with
  | a => exact h
  | c A => exact h.1
  | d A => exact h.1
  | e => exact h
section
variable {w : World} {base n : Nat} {v u : Value} {bs cs : List Nat} {ms : List Mp} {ds : List Dt} {d : Dt}
theorem fk_all {a : Act} {op : Oper} {W : World} {i pb : Nat} (hD : Data n bs cs ms ds ds) (hd : ds[i]? = some d) (hok : d.ok) (hpb : pb = bs.getD i 0) (h : FkS w base n v u bs cs ms d.l .a W) (hop : (execOp a.eval op).run Try.prog W = .ok (.enter 14 #[.pointer (some ⟨pb, 0, none⟩)]) W) :
    Gives Try.prog (execOp a.eval op) W fun u' w' => ∃ s', (∃ A c, u' = .slice A d.l.length c ∧ s' = FK.c A) ∧ FkS w base n v u bs cs ms d.l s' w' := by
  subst hpb
  refine gives_call hop ((inv_all ⟨ms, h, hD⟩ hd hok).mono fun e w' ⟨A, c, he, hen, hb⟩ => ⟨_, he, .c A, ⟨A, c, rfl, rfl⟩, InvM.call h hb, hen⟩)
theorem fk_plain {a : Act} {op : Oper} {W : World} {A : Option Addr} {c : Nat} (hok : d.ok) (h : FkS w base n v u bs cs ms d.l (.c A) W) (hop : (execOp a.eval op).run Try.prog W = .ok (.enter 13 #[.slice A d.l.length c]) W) :
    Gives Try.prog (execOp a.eval op) W fun u' w' => ∃ s', (∃ A c, u' = .slice A d.l.length c ∧ s' = FK.d A) ∧ FkS w base n v u bs cs ms d.l s' w' := by
  refine gives_call hop ((plain_any A d.l.length c d.l W h.2 (by have := hok.1; have := hok.2.2; omega)).mono fun e w' ⟨A', c', he, hen, hb⟩ => ⟨_, he, .d A', ⟨A', c', rfl, rfl⟩, InvM.call h.1 hb, hen⟩)
theorem fk_same {a : Act} {op : Oper} {W : World} {A A2 : Option Addr} {c c2 : Nat} (hok : d.ok) (h : FkS w base n v u bs cs ms d.l (.d A) W) (h2 : EnsAt W A2 d.l.length d.l) (hop : (execOp a.eval op).run Try.prog W = .ok (.enter 12 #[.slice A d.l.length c, .slice A2 d.l.length c2]) W) :
    Gives Try.prog (execOp a.eval op) W fun u' w' => ∃ s', (u' = .bool true ∧ s' = FK.e) ∧ FkS w base n v u bs cs ms d.l s' w' := by
  have hs : d.l.length ≤ 1000 := by have := hok.1; have := hok.2.2; omega
  refine gives_call hop ((rsame_any A A2 d.l.length d.l.length c c2 d.l d.l W h.2 h2 hs hs).mono fun e w' ⟨he, hb⟩ => ⟨_, he, .e, ⟨by simp, rfl⟩, InvM.call h.1 hb⟩)
theorem qk_put {a : Act} {op : Oper} {W : World} {i pb : Nat} {x : Z.En} (hd : ds[i]? = some d) (hok : d.ok) (hpb : pb = bs.getD i 0) (h : QkS w base n v u bs cs ds (ds.set i (d.put x)) .a W) (hop : (execOp a.eval op).run Try.prog W = .ok (.enter 10 #[.pointer (some ⟨pb, 0, none⟩), .int .i64 x.key, .agg #[.int .i64 x.a, .int .i64 x.b, .int .i64 x.c, .int .i64 x.d]]) W) :
    Gives Try.prog (execOp a.eval op) W fun u' w' => ∃ s', (u' = .int .i64 (d.code x) ∧ s' = QK.b) ∧ QkS w base n v u bs cs ds (ds.set i (d.put x)) s' w' := by
  subst hpb
  refine gives_call hop ((inv_put h hd hok x).mono fun e w' ⟨he, hi⟩ => ⟨_, he, .b, ⟨rfl, rfl⟩, hi⟩)
theorem qk_rput {a : Act} {op : Oper} {W : World} {i cb : Nat} {x : Z.En} (hd : ds[i]? = some d) (hok : d.ok) (hcb : cb = cs.getD i 0) (h : QkS w base n v u bs cs ds (ds.set i (d.put x)) .b W) (hop : (execOp a.eval op).run Try.prog W = .ok (.enter 11 #[.pointer (some ⟨cb, 0, none⟩), .int .i64 x.key, .agg #[.int .i64 x.a, .int .i64 x.b, .int .i64 x.c, .int .i64 x.d]]) W) :
    Gives Try.prog (execOp a.eval op) W fun u' w' => ∃ s', (u' = .int .i64 (d.code x) ∧ s' = QK.c) ∧ QkS w base n v u bs cs ds (ds.set i (d.put x)) s' w' := by
  subst hcb
  refine gives_call hop ((inv_rput h hd hok x).mono fun e w' ⟨he, hi⟩ => ⟨_, he, .c, ⟨rfl, rfl⟩, hi⟩)
theorem InvM.rcell {W : World} (h : InvM w base n v u bs cs ms W) (hD : Data n bs cs ms ds ds) {i cb : Nat} (hd : ds[i]? = some d) (hcb : cb = cs.getD i 0) {sv : Value} (hm : ms[n + i]? = some (d.r (cs.getD i 0) sv)) : W.cell? ⟨cb, 2, none⟩ = some sv := by
  subst hcb
  have := (MpAt.row (h.all.each _ _ hm)).cell 2 _ rfl
  exact this
end
end Go.Proofs.Ytkomehplcacbcaa
