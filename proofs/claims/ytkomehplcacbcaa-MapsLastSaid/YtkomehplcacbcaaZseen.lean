/-
  A map of bools that holds just the keys that were seen; the Puts of keys, one by one.
-/
import Derived.Test.YtkomehplcacbcaaZopen
import Derived.Maps.OwnSet
import Derived.Maps.OwnOps
namespace Go.Proofs.Ytkomehplcacbcaa
open Go.RowKit Go.Maps

structure SeenIs (D : DataW Unit) (S : List Int) : Prop where
  has : ∀ i : Int, Maps.has D (.int .i64 i) = decide (i ∈ S)
  held : ∀ i : Int, i ∈ S → ∀ z, D.atKey (.int .i64 i) z = .lit (.bool true)
  size : Maps.size D = S.length
def SeenAt (w : World) (b : Nat) (S : List Int) : Prop := ∃ D, w.ownsMap Try.prog 3 (plainElem Try.prog 4) b (Maps.size D) D ∧ SeenIs D S
theorem keyLaw : Keyed Try.prog 3 := int_keyed Try.underlying3
theorem zeroBool (w : World) : (zeroValue 4).run Try.prog w = .ok (.bool false) w := by kernel_rfl
theorem wf_i64 {i : Int} (h1 : -9223372036854775808 ≤ i) (h2 : i ≤ 9223372036854775807) : (Lit.int .i64 i).wf = true := WalkArith.wf_i64 (by omega)
theorem SeenAt.block {w w' : World} {b : Nat} {S : List Int} (h : SeenAt w b S) (hb : w'.heap[b]? = w.heap[b]?) : SeenAt w' b S := by
  obtain ⟨D, ⟨es, clock, h1, h2⟩, h3⟩ := h
  exact ⟨D, ⟨es, clock, hb.trans h1, h2⟩, h3⟩
theorem SeenAt.lt {w : World} {b : Nat} {S : List Int} (h : SeenAt w b S) : b < w.heap.size := by
  obtain ⟨D, h1, _⟩ := h
  exact h1.lt
theorem SeenAt.step {w w' : World} {b : Nat} {S : List Int} (h : SeenAt w b S) (hb : Below w.heap.size w w') : SeenAt w' b S := h.block (hb.block b h.lt)
theorem tight {w : World} {b n : Nat} {D : DataW Unit} (h : w.ownsMap Try.prog 3 (plainElem Try.prog 4) b n D) : w.ownsMap Try.prog 3 (plainElem Try.prog 4) b (Maps.size D) D := by
  obtain ⟨es, clock, hb, F, hs, rfl⟩ := h
  exact ⟨es, clock, hb, F, by simp [Maps.size, length_sorted], rfl⟩
theorem plainBool_inv {v : Value} {z : DataW Unit × List MemPlace} (h : plainElem Try.prog 4 v = some z) : ∃ x, v = .bool x ∧ z = (.lit (.bool x), []) := by
  unfold plainElem at h
  rw [Try.underlying4] at h
  cases v <;> simp at h
  rename_i x
  exact ⟨x, rfl, h.symm⟩
theorem seenAt_made (w : World) : SeenAt (w.alloc (.map #[] 0)) w.heap.size [] := by
  refine ⟨.map [], World.ownsMap_made _ _ _ _, ?_, ?_, rfl⟩
  · intro i
    rw [has_eq]
    simp
  · intro i hi
    cases hi
theorem SeenAt.look {w : World} {b : Nat} {S : List Int} (h : SeenAt w b S) (i : Int) (h1 : -9223372036854775808 ≤ i) (h2 : i ≤ 9223372036854775807) :
    (Instr.lookup 58 (.map (some b)) (.int .i64 i) false).run Try.prog w = .ok (.bool (decide (i ∈ S))) w := by
  obtain ⟨D, g1, g3⟩ := h
  obtain ⟨v, ps, hrun, hv⟩ := g1.lookup (t := 58) (e := 4) keyLaw Try.underlying58 (zeroBool w) (plainElem_bool Try.underlying4 false) (key := .int .i64 i) (keyOf_int_mk Try.underlying3 (wf_i64 h1 h2))
  obtain ⟨x, rfl, e⟩ := plainBool_inv hv
  rw [hrun]
  injection e with e _
  have hx : x = decide (i ∈ S) := by
    by_cases hb : i ∈ S
    · rw [g3.held i hb] at e
      injection e with e; injection e with e
      rw [← e]; simp [hb]
    · have hh : Maps.has D (.int .i64 i) = false := by rw [g3.has]; simp [hb]
      rw [atKey_of_not_has hh] at e
      injection e with e; injection e with e
      rw [← e]; simp [hb]
  rw [hx]
theorem SeenAt.len {w : World} {b : Nat} {S : List Int} (h : SeenAt w b S) (ty : TypeId) : (Builtin.len_ #[58] ty #[.map (some b)]).run Try.prog w = .ok (.int .i64 (S.length : Int)) w := by
  obtain ⟨D, h1, h3⟩ := h
  rw [h1.len Try.underlying58, h3.size]
theorem SeenAt.store {w : World} {b : Nat} {S : List Int} (h : SeenAt w b S) (hl : S.length ≤ 1000) (i : Int) (h1 : -9223372036854775808 ≤ i) (h2 : i ≤ 9223372036854775807) (hn : i ∉ S) :
    ∃ w', (Instr.mapUpdate 58 (.map (some b)) (.int .i64 i) (.bool true)).run Try.prog w = .ok () w' ∧ SeenAt w' b (S ++ [i]) ∧ w.mapTurned w' b := by
  obtain ⟨D, g1, g3⟩ := h
  have hsz : Maps.size D ≤ 1000 := by rw [g3.size]; exact hl
  obtain ⟨w', hrun, hown, hturn⟩ := g1.store (t := 58) (e := 4) keyLaw Try.underlying58 (by unfold maxLen; omega) (key := .int .i64 i) (val := .bool true) (keyOf_int_mk Try.underlying3 (wf_i64 h1 h2)) (plainElem_bool Try.underlying4 true)
  refine ⟨w', hrun, ⟨_, tight hown, ?_, ?_, ?_⟩, hturn⟩
  · intro j
    by_cases e : j = i
    · subst e
      rw [has_put_same (k := .int .i64 j) g1.isMap trivial]
      simp
    · rw [has_put_other (fun q => e (by injection q)), g3.has]
      simp [e]
  · intro j hq z
    by_cases e : i = j
    · subst e
      rw [atKey_put_same (k := .int .i64 i) g1.isMap trivial]
    · rw [atKey_put_other (fun k => e (by injection k with _ k; exact k.symm))]
      refine g3.held j ?_ z
      rcases List.mem_append.1 hq with h | h
      · exact h
      · exact absurd (List.mem_singleton.1 h).symm e
  · rw [size_put (g1.tidy keyLaw), g3.has, g3.size]
    simp [hn]
theorem seen_but {w w' : World} {b : Nat} (h : w.mapTurned w' b) : But (fun k => k = b) w w' := by
  have hg := h.grown
  exact ⟨hg.os, hg.tape, hg.output, hg.size, fun k hk hne => hg.block k hk (fun e => hne (by injection e))⟩
/-! ### the Puts -/
def enAt (ks : List Nat) (i : Nat) : Z.En := ⟨(ks.getD i 0 : Nat), i, 0, 0, 0⟩
def esK (ks : List Nat) (n : Nat) : List Z.En := (List.range n).map (enAt ks)
theorem esK_succ (ks : List Nat) (n : Nat) : esK ks (n + 1) = esK ks n ++ [enAt ks n] := by unfold esK; rw [List.range_succ, List.map_append]; rfl
theorem esK_len (ks : List Nat) (n : Nat) : (esK ks n).length = n := by unfold esK; simp
theorem rev_at (ks : List Nat) (n t : Nat) (h : t < n) : (esK ks n).reverse[n - (t + 1)]? = some (enAt ks t) := by
  rw [List.getElem?_reverse (by rw [esK_len]; omega), esK_len, show n - 1 - (n - (t + 1)) = t by omega]
  unfold esK
  rw [List.getElem?_map, List.getElem?_range h]
  rfl
theorem enAt_key {ks : List Nat} {i k : Nat} (h : ks[i]? = some k) : enAt ks i = ⟨(k : Int), i, 0, 0, 0⟩ := by unfold enAt; rw [List.getD_eq_getElem?_getD, h]; rfl
theorem mem_keys {k : Int} {l : List Z.En} : k ∈ Z.keys l ↔ Z.has k l = true := by
  rw [Z.has_iff]
  unfold Z.keys
  rw [List.mem_map]
/-- the map between two Puts -/
def LaS (w : World) (base b room : Nat) (l : List Z.En) (W : World) : Prop := ∃ sv, MpAt 62 (kd true) W base b sv room l ∧ Below w.heap.size w W ∧ w.heap.size ≤ base ∧ base ≤ W.heap.size
theorem LaS.call {w : World} {base b room : Nat} {l : List Z.En} {W W' : World} (h : LaS w base b room l W) (k : Below W.heap.size W W') : LaS w base b room l W' := by
  obtain ⟨sv, hm, hb, he, h2⟩ := h
  exact ⟨sv, hm.step k, hb.trans (k.mono hb.size), he, Nat.le_trans h2 k.size⟩
theorem la_put (w : World) (base b room : Nat) (ks : List Nat) (n : Nat) (k : Nat) (hk : ks[n]? = some k) (W : World) (h : LaS w base b room (Z.puts room (esK ks n)) W) (h1 : 1 ≤ room) (h2 : room ≤ 8) :
    Calls Try.prog 10 #[.pointer (some ⟨b, 0, none⟩), .int .i64 (k : Int), .agg #[.int .i64 (n : Int), .int .i64 0, .int .i64 0, .int .i64 0]] W fun e w' => e = .returned (.int .i64 0) ∧ LaS w base b room (Z.puts room (esK ks (n + 1))) w' := by
  obtain ⟨sv, hm, hb, he, hbw⟩ := h
  have := put_any true base b sv room _ ⟨(k : Int), n, 0, 0, 0⟩ W hm (Z.puts_len room h1 _) h1 (by omega) hbw
  rw [Z.putC_lru, Z.putI_putL (Z.uniq_puts room h1 _), ← enAt_key hk, ← Z.puts_snoc, ← esK_succ] at this
  rw [enAt_key hk] at this
  exact this.mono fun e w' ⟨g1, sv', g2⟩ => ⟨g1, sv', g2.at_, hb.trans (g2.but.below hb.size (fun x hx => Nat.le_trans he (hm.foot hx).1)), he, Nat.le_trans hbw g2.but.size⟩
end Go.Proofs.Ytkomehplcacbcaa
