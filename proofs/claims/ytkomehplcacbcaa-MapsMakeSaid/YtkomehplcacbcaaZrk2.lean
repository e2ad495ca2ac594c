/-
  More of the kinds of worlds of the document's Put: all entries appended, the entries without one.
-/
import Derived.Test.YtkomehplcacbcaaZrwo
namespace Go.Proofs.Ytkomehplcacbcaa
open Go.RowKit Go.Maps
section
variable {hd : Value} {wx : World} {base b : Nat} {sv : Value} {room : Nat} {l l' : List Z.En} {e : Z.En}
theorem rk_all {a : Act} {op : Oper} {W : World} {v : Value} {yy : Option Nat} (h0 : MpAt 67 hd wx base b sv room l) (hn : l.length ≤ 1000) (h : RkS hd wx base b sv room l l' e (.p (some (v, [])) yy) W) (p q : Operand)
    (ho : op.op = .call { callee := .builtin .append, args := #[p, q], argTypes := #[41, 41] }) (hp : a.eval p = v) (hq : a.eval q = sv) :
    Gives Try.prog (execOp a.eval op) W fun u w' => ∃ s', s' = RK.p (some (u, [] ++ l)) yy ∧ RkS hd wx base b sv room l l' e s' w' := by
  rcases h0.own.2 with ⟨e1, e2⟩ | ⟨g, cap, cur, e1, _⟩
  · have hl : l = [] := List.eq_nil_of_length_eq_zero e2
    subst hl
    exact rk_nothing h p q ho hp (hq.trans e1)
  · refine rk_append (ys := l) h p q ho hp ⟨g, 0, none⟩ l.length cap (hq.trans e1) rfl ?_ (by simp; omega)
    have hb := h.1
    exact cells_step (fun j u hu => h0.own.cells (by rw [e1]; rfl) j u hu) hb (by have := (h0.own.lt g (by rw [e1]; rfl)).2; exact this)
theorem rk_without {a : Act} {op : Oper} {W : World} {yy : Option Nat} {xs : List Z.En} {f : FuncId} {args : Array Value} (h : RkS hd wx base b sv room l l' e (.p none yy) W) (hop : (execOp a.eval op).run Try.prog W = .ok (.enter f args) W)
    (hc : Calls Try.prog f args W fun e w' => ∃ v, e = .returned v ∧ w'.ownsRow W.heap.size 67 5 v xs.length (cellsE xs) ∧ Below W.heap.size W w') :
    Gives Try.prog (execOp a.eval op) W fun u w' => ∃ s', s' = RK.p (some (u, xs)) yy ∧ RkS hd wx base b sv room l l' e s' w' := by
  obtain ⟨h1, _, h3⟩ := h
  refine gives_call hop (hc.mono fun e w' ⟨v, he, hown, hb⟩ => ⟨v, he, _, rfl, h1.trans (hb.mono h1.size), fun u zs hx => ?_, fun g hg => ?_⟩)
  · injection hx with hx
    injection hx with e1 e2
    subst e1 e2
    exact own_le hown h1.size
  · obtain ⟨g1, g2, g3, _⟩ := h3 g hg
    refine ⟨g1, Nat.lt_of_lt_of_le g2 hb.size, cells_step g3 hb g2, fun u zs hx => ?_⟩
    injection hx with hx
    injection hx with e1 e2
    subst e1
    intro hv
    have := (hown.lt _ hv).1
    omega
end
theorem cellsE_sing (e : Z.En) : cellsE [e] = enL e := by unfold cellsE; simp
theorem set_parts {l : List Z.En} {i : Nat} (h : i < l.length) (e : Z.En) : [] ++ l.take i ++ [e] ++ l.drop (i + 1) = l.set i e := by
  rw [List.set_eq_take_append_cons_drop, if_pos h]; simp
end Go.Proofs.Ytkomehplcacbcaa
