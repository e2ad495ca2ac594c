/-
  The four words of an entry, set where it lies.
-/
import Derived.Test.YtkomehplcacbcaaZapp
namespace Go.Proofs.Ytkomehplcacbcaa
open Go.RowKit Go.Maps

theorem cellsE_set : ∀ (l : List Z.En) (i : Nat) (y x : Z.En), l[i]? = some y → y.key = x.key →
    cellsE (l.set i x) = ((((cellsE l).set (i * 5 + 1) (.int .i64 x.a)).set (i * 5 + 2) (.int .i64 x.b)).set (i * 5 + 3) (.int .i64 x.c)).set (i * 5 + 4) (.int .i64 x.d)
  | [], i, y, x, h, _ => by simp at h
  | z :: r, 0, y, x, h, hk => by
    simp at h
    subst h
    unfold cellsE
    rw [List.set_cons_zero, List.flatMap_cons, List.flatMap_cons]
    unfold enL
    rw [← hk]
    rfl
  | z :: r, i + 1, y, x, h, hk => by
    have ih := cellsE_set r i y x (by simpa using h) hk
    unfold cellsE at ih ⊢
    rw [List.set_cons_succ, List.flatMap_cons, List.flatMap_cons, ih]
    unfold enL
    have e1 : (i + 1) * 5 + 1 = (i * 5 + 1) + 1 + 1 + 1 + 1 + 1 := by omega
    have e2 : (i + 1) * 5 + 2 = (i * 5 + 2) + 1 + 1 + 1 + 1 + 1 := by omega
    have e3 : (i + 1) * 5 + 3 = (i * 5 + 3) + 1 + 1 + 1 + 1 + 1 := by omega
    have e4 : (i + 1) * 5 + 4 = (i * 5 + 4) + 1 + 1 + 1 + 1 + 1 := by omega
    rw [e1, e2, e3, e4]
    rfl
theorem own_set {w : World} {base : Nat} {t : TypeId} {g n cap : Nat} {l : List Z.En} {i : Nat} {y x : Z.En} (h : w.ownsRow base t 5 (.slice (some ⟨g, 0, none⟩) n cap) n (cellsE l)) (hy : l[i]? = some y) (hk : y.key = x.key) :
    (w.setCells g (i * 5 + 1) (wordsL x)).ownsRow base t 5 (.slice (some ⟨g, 0, none⟩) n cap) n (cellsE (l.set i x)) := by
  rw [cellsE_set l i y x hy hk]
  unfold wordsL
  simp only [World.setCells]
  exact ((((h.stored _ _).1.stored _ _).1.stored _ _).1.stored _ _).1
theorem MpTo.wordset {t : TypeId} {hd : Value} {w : World} {base b : Nat} {g n cap : Nat} {room : Nat} {l : List Z.En} {i : Nat} {y x : Z.En} (h : MpAt t hd w base b (.slice (some ⟨g, 0, none⟩) n cap) room l) (hn : n = l.length) (hy : l[i]? = some y) (hk : y.key = x.key) :
    MpTo t hd w base b (.slice (some ⟨g, 0, none⟩) n cap) room (l.set i x) (w.setCells g (i * 5 + 1) (wordsL x)) (.slice (some ⟨g, 0, none⟩) n cap) := by
  have hb := But.setCells g (wordsL x) (i * 5 + 1) w
  have hgb : g ≠ b := fun e => h.ne (by rw [e]; rfl)
  subst hn
  refine ⟨⟨h.row.but hb (fun e => hgb e.symm), by rw [List.length_set]; exact own_set h.own hy hk, h.ne, h.ge⟩, hb.mono (fun k hk => Or.inl (Or.inr (by rw [hk]; rfl))), fun k hk => Or.inl hk⟩
theorem own_thereE {w : World} {base : Nat} {t : TypeId} {g n cap : Nat} {l : List Z.En} {i : Nat} (h : w.ownsRow base t 5 (.slice (some ⟨g, 0, none⟩) n cap) n (cellsE l)) (hi : i < n) : w.there g (i * 5 + 1) 4 := by
  obtain ⟨h1, _⟩ := own_cap h
  exact own_there h _ _ (by omega)
theorem wpList_store_words {ops : Array Oper} {rest : List Oper} {op : Oper} {a : Act} {Q : Exit → Act → World → Prop} {w : World} {g o : Nat} {x : Z.En} (hth : w.there g o 4) (hgd : op.guard = none) (y z : Operand) (ho : op.op = .store 39 y z)
    (hx : a.eval y = .pointer (some ⟨g, o, none⟩)) (hy : a.eval z = .agg (wordsL x).toArray) (hn : wpList Try.prog ops Q rest (a.put op.dst undef) (w.setCells g o (wordsL x))) : wpList Try.prog ops Q (op :: rest) a w :=
  wpList_store_mid hgd 39 y z ho g o (wordsL x).toArray hx hy (by simpa [wordsL] using hth) (by rw [valT.info]; rfl) (all_oneCell_toArray (wordsL_one x)) (by simpa using hn)
end Go.Proofs.Ytkomehplcacbcaa
