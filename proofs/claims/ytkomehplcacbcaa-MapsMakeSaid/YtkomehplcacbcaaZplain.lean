/-
  The document's Put in one; the law's Plain; the document's Same.
-/
import Derived.Test.YtkomehplcacbcaaZrp1
import Derived.Test.YtkomehplcacbcaaZrp2
import Derived.Test.YtkomehplcacbcaaZrp3
import Derived.Test.YtkomehplcacbcaaZrp4
import Derived.Test.YtkomehplcacbcaaZrp5
import Derived.Test.YtkomehplcacbcaaZeq
namespace Go.Proofs.Ytkomehplcacbcaa
open Go.RowKit Go.Maps

theorem rput_any (lru : Bool) (base b : Nat) (sv : Value) (room : Nat) (l : List Z.En) (x : Z.En) (w : World) (h : MpAt 67 (.bool lru) w base b sv room l) (hn : l.length ≤ room) (hr1 : 1 ≤ room) (hr : room ≤ 1000) (hbase : base ≤ w.heap.size) :
    Calls Try.prog 11 #[.pointer (some ⟨b, 0, none⟩), .int .i64 x.key, .agg #[.int .i64 x.a, .int .i64 x.b, .int .i64 x.c, .int .i64 x.d]] w fun e w' => e = .returned (.int .i64 (Z.putC lru room l x)) ∧ ∃ sv', MpTo 67 (.bool lru) w base b sv room (Z.putI lru room l x) w' sv' := by
  unfold Z.putC Z.putI
  cases hp : Z.pos x.key l with
  | some i =>
    cases lru with
    | false => exact rput_there_hash base b sv room l x i hp w h (by omega) hbase
    | true => exact rput_there_lru base b sv room l x i hp w h (by omega) hbase
  | none =>
    by_cases hf : l.length = room
    · simp only [hf, if_true]
      cases lru with
      | false => exact rput_hash_full base b sv room l x hp hf hr1 w h (by omega) hbase
      | true => exact rput_lru_full base b sv room l x hp hf hr1 w h (by omega) hbase
    · simp only [hf, if_false]
      cases lru with
      | false => exact rput_hash_room base b sv room l x hp (by omega) hr1 w h (by omega) hbase
      | true => exact rput_lru_room base b sv room l x hp (by omega) hr1 w h (by omega) hbase
/-! ### Plain -/
structure GrS (w0 : World) (t : TypeId) (l : Value) (xs : List Z.En) (W : World) : Prop where
  own : W.ownsRow w0.heap.size t 5 l xs.length (cellsE xs)
  bel : Below w0.heap.size w0 W
theorem grS_start (w : World) (t : TypeId) : GrS w t (.slice none 0 0) [] w := ⟨⟨rfl, Or.inl ⟨rfl, rfl⟩⟩, Below.refl _ _⟩
theorem GrS.call {w0 : World} {t : TypeId} {l : Value} {xs : List Z.En} {W W' : World} (k : GrS w0 t l xs W) (hb : Below W.heap.size W W') : GrS w0 t l xs W' := ⟨owns_below k.own hb, k.bel.trans (hb.mono k.bel.size)⟩
theorem GrS.grow {w0 : World} {t : TypeId} {l l' : Value} {xs : List Z.En} {x : Z.En} {W W' : World} (k : GrS w0 t l xs W) (hg : W.grownBy W' l.ownBlock) (hown : W'.ownsRow w0.heap.size t 5 l' (xs.length + 1) (cellsE xs ++ enL x)) : GrS w0 t l' (xs ++ [x]) W' where
  own := by
    rw [cellsE_snoc, List.length_append]
    exact hown
  bel := k.bel.grown hg k.bel.size (fun j hj => (k.own.lt j hj).1)
def PlainGive (n : Nat) (xs : List Z.En) (w : World) (e : Ending) (w' : World) : Prop := ∃ A c, e = .returned (.slice A n c) ∧ EnsAt w' A n xs ∧ Below w.heap.size w w'
theorem give {t : TypeId} {w w' : World} {A : Option Addr} {n c : Nat} {xs : List Z.En} (S : GrS w t (.slice A n c) xs w') (hn : n = xs.length) : PlainGive n xs w (.returned (.slice A n c)) w' := ⟨A, c, rfl, own_ens (by have := S.own; rw [← hn] at this; exact this) hn, S.bel⟩
theorem wpList_oneE {ops : Array Oper} {rest : List Oper} {op : Oper} {a : Act} {Q : Exit → Act → World → Prop} {w : World} {x : Z.En} (hgd : op.guard = none) (y : Operand) (ho : op.op = .buildSlice 41 1 #[(0, y)]) (hy : a.eval y = .agg (enL x).toArray)
    (h : wpList Try.prog ops Q rest (a.put op.dst (.slice (some ⟨w.heap.size, 0, none⟩) 1 1)) (w.alloc (.cells (enL x).toArray 67))) : wpList Try.prog ops Q (op :: rest) a w :=
  wpList_plain hgd fun _ hK => by
    unfold Oper.wp
    rw [exec_oneE (Or.inr ⟨rfl, rfl⟩) y ho hy]
    exact hK _ _ h
theorem wpList_build_en {ops : Array Oper} {rest : List Oper} {op : Oper} {a : Act} {Q : Exit → Act → World → Prop} {w : World} {x : Z.En} (hgd : op.guard = none) (y z : Operand) (ho : op.op = .build 67 #[(0, y), (1, z)]) (hy : a.eval y = .int .i64 x.key) (hz : a.eval z = .agg (wordsL x).toArray)
    (h : wpList Try.prog ops Q rest (a.put op.dst (.agg (enL x).toArray)) w) : wpList Try.prog ops Q (op :: rest) a w :=
  wpList_plain hgd fun _ hK => by
    have hr : (execOp a.eval op).run Try.prog w = .ok (.value (.agg (enL x).toArray)) w := by
      unfold execOp
      simp only [ho, hy, hz, List.map_toArray, List.map_cons, List.map_nil]
      unfold enL wordsL
      go_simp
    unfold Oper.wp
    rw [hr]
    exact hK _ _ h
theorem RowAt.words {w : World} {b : Nat} {x : Z.En} (h : RowAt w b (enL x)) : w.rangeAt b 1 (wordsL x) := by
  have := words_range (g := b) (o := 0) h.range
  exact this
set_option maxRecDepth 100000 in
set_option maxHeartbeats 2000000 in
theorem plain_any (A : Option Addr) (n c : Nat) (xs : List Z.En) (w : World) (h : EnsAt w A n xs) (hn : n ≤ 1000) :
    Calls Try.prog 13 #[.slice A n c] w (PlainGive n xs w) := by
  have H0 := Lib.hid h
  have HL := Lib.hid h.len
  have S0 := Lib.hid (grS_start w 67)
  obtain ⟨i0, hi0, hz0, hs0, hb0⟩ := info_parts info_ren
  have HI0 := Lib.hid hi0
  have HZ0 := Lib.hid hz0
  have HS0 := Lib.hid hs0
  have HB0 := Lib.hid hb0
  clear h hi0 hz0 hs0 hb0
  go_enter Try.func13, Try.ntmps13
  go_wp2
  go_loopw [3, 8] (fun l i wr => ∃ (k : Nat) (A' : Option Addr) (c' : Nat), k ≤ n ∧ i = .int .i64 (k : Int) ∧ l = .slice A' k c' ∧ Hid (GrS w 67 (.slice A' k c') (xs.take k) wr)) (fun _ i _ => n - (intOf i).toNat)
  case atStart => exact ⟨0, none, 0, Nat.zero_le _, rfl, rfl, S0⟩
  case round =>
    clear S0
    obtain ⟨k, A', c', hk, rfl, rfl, S⟩ := hrel
    rename World => wo
    by_cases hlt : k < n
    · obtain ⟨b, off, x, hA, hb, hx, hc⟩ := (H0.out.step (S.out.bel)).get k hlt
      subst hA
      have HC := Lib.hid hc
      have HT : Hid (xs.take (k + 1) = xs.take k ++ [x]) := Lib.hid (by obtain ⟨h1, h2⟩ := List.getElem?_eq_some_iff.1 hx; rw [List.take_succ_eq_append_getElem h1, h2])
      have HM : Hid (k = (xs.take k).length) := Lib.hid (by rw [List.length_take, HL.out]; omega)
      have hk0 : (0 : Int) ≤ (k : Int) := by omega
      have hk1 : (k : Int) < (n : Int) := by omega
      clear hx hc hb
      generalize xs.take k = ys at S HT HM
      go_wp2_with (first
        | ((with_reducible refine wpList_load_at enT HC.out (enL_length _) rfl (.tmp 10) rfl ?_ ?_); (exact rfl))
        | ((with_reducible refine wpList_store_newrow enT (vs := enL x) (enL_length _) (enL_one _) rfl (.tmp 5) (.tmp 11) rfl rfl ?_ ?_ ?_); (exact rfl); (exact rfl); intro W4 hP hb hz; have R := Lib.hid hP; have hkc := hP.cell 0 _ rfl; replace S := Lib.hid (S.out.call hb); clear hP hb hz; generalize wo.heap.size = G at R hkc ⊢)
        | ((with_reducible refine wpList_load_at valT (RowAt.words R.out) (wordsL_length _) rfl (.tmp 15) rfl ?_ ?_); (exact rfl))
        | ((with_reducible refine wpList_build_en (x := x) rfl (.tmp 14) (.tmp 16) rfl ?_ ?_ ?_); (exact rfl); (exact rfl))
        | ((with_reducible refine wpList_oneE (x := x) rfl (.tmp 17) rfl ?_ ?_); (exact rfl); have HNW := Lib.hid (cell_new W4 (enL x) 67); have HBel : Hid (Below W4.heap.size W4 (W4.alloc (.cells (enL x).toArray 67))) := Lib.hid ((Below.refl _ _).alloc (Nat.le_refl _) _); replace S := Lib.hid (S.out.call HBel.out); have HSZ : Hid (w.heap.size ≤ (W4.alloc (.cells (enL x).toArray 67)).heap.size) := Lib.hid S.out.bel.size; have HOwn := Lib.hid S.out.own; rw [← HM.out] at HOwn; clear HBel hkc; generalize W4.heap.size = E at HNW ⊢; generalize W4.alloc (.cells (enL x).toArray 67) = W5 at HNW S HSZ HOwn ⊢)
        | (at_builtin; go_must (refine wpList_append_own_at _ rfl (.tmp 12) (.tmp 18) 41 rfl w.heap.size 67 i0 _ 5 40 Try.underlying41 HI0.out HZ0.out HS0.out HB0.out rfl (by omega) _ k _ rfl HOwn.out ⟨E, 0, none⟩ 1 1 (enL x) rfl rfl HNW.out (enL_one _) (by unfold maxLen; omega) (by omega) HSZ.out ?_); intro v' w5 hown' hgrow hnil hloc; obtain ⟨A', c', rfl⟩ := owns_slice hown'))
      have S3 := Lib.hid (S.out.grow hgrow (x := x) (by rw [← HM.out]; exact hown'))
      rw [← HT.out] at S3
      clear hown' hgrow hnil hloc S
      go_roundw
      case rel => exact ⟨k + 1, A', c', by omega, by go_num, rfl, S3⟩
      case measure => (simp [intOf] <;> omega)
    · obtain rfl : k = n := by omega
      have e : xs.take k = xs := List.take_of_length_le (by rw [HL.out]; exact Nat.le_refl _)
      rw [e] at S
      have HF := Lib.hid (give S.out HL.out.symm)
      clear e S hlt
      go_wp2
      go_ret
      exact HF.out
end Go.Proofs.Ytkomehplcacbcaa
