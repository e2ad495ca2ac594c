/-
  Arguments opened: a value of four words, keys as bytes, ints, specs.
-/
import Derived.Test.YtkomehplcacbcaaZawake
namespace Go.Proofs.Ytkomehplcacbcaa
open Go.ChangeShapes Go.WideShapes Go.ChangeAt Go.RowKit Go.Maps

theorem cellsI : Try.prog.cellsOf 3 = 1 := by kernel_rfl
theorem cellsU : Try.prog.cellsOf 5 = 1 := by kernel_rfl
theorem cellsV : Try.prog.cellsOf 39 = 4 := by kernel_rfl
theorem open_val {H : Type} {enc : TypeId × Value → H} {W : World} {base : Nat} {v : Value} {d : DataW H} {p : List MemPlace} (hv : Value.okWide Try.prog W .any base 39 v)
    (h : DataW.Trod enc Try.prog W 0 (fun _ => true) true 39 v d p) : ∃ a b c e : Int, v = .agg #[.int .i64 a, .int .i64 b, .int .i64 c, .int .i64 e] := by
  obtain ⟨cs, rfl, hsz⟩ := okWide_array Try.underlying39 hv
  obtain ⟨fuel, hf⟩ := h
  obtain ⟨xs, mm, _, _, hcl, hxl, hx⟩ := DataW.trod_array Try.underlying39 hf
  have hc4 : cs.size = 4 := by rw [hsz, cellsV]
  have each : ∀ j, j < 4 → ∃ a : Int, cs.toList[j]? = some (.int .i64 a) := by
    intro j hj
    have hx' := hx j (by omega)
    rw [cellsI, Nat.mul_one] at hx'
    have hs : xs[j]? = some (xs[j]'(by omega)) := List.getElem?_eq_getElem (by omega)
    obtain ⟨v, hv, _, hw⟩ := DataW.trod_int Try.underlying3 (hx'.trans hs)
    refine ⟨v, ?_⟩
    have hjl : j < cs.toList.length := by rw [Array.length_toList]; omega
    have e : ((Value.agg cs).cells.toList.drop j).take 1 = [cs.toList[j]] := by
      show (cs.toList.drop j).take 1 = _
      rw [List.drop_eq_getElem_cons hjl]; rfl
    rw [e] at hv
    injection hv with hv
    rw [List.getElem?_eq_getElem hjl, hv]
  obtain ⟨l⟩ := cs
  have hl : l.length = 4 := by simpa using hc4
  match l, hl with
  | [x0, x1, x2, x3], _ =>
    obtain ⟨a, ha⟩ := each 0 (by omega)
    obtain ⟨b, hb⟩ := each 1 (by omega)
    obtain ⟨c, hc⟩ := each 2 (by omega)
    obtain ⟨d, hd⟩ := each 3 (by omega)
    simp at ha hb hc hd
    subst ha hb hc hd
    exact ⟨a, b, c, d, rfl⟩
/-- keys that lie in a slice of bytes -/
structure KeysAt (w : World) (A : Option Addr) (n : Nat) (ks : List Nat) : Prop where
  len : ks.length = n
  small : ∀ k ∈ ks, k ≤ 255
  rows : ManyAt w A 1 (ks.map fun (k : Nat) => [Value.int .u8 (k : Int)])
theorem KeysAt.step {w w' : World} {A : Option Addr} {n : Nat} {ks : List Nat} (h : KeysAt w A n ks) (hb : Below w.heap.size w w') : KeysAt w' A n ks := ⟨h.len, h.small, h.rows.step hb⟩
theorem KeysAt.get {w : World} {A : Option Addr} {n : Nat} {ks : List Nat} (h : KeysAt w A n ks) (i : Nat) (hi : i < n) : ∃ b off k, A = some ⟨b, off, none⟩ ∧ b < w.heap.size ∧ ks[i]? = some k ∧ k ≤ 255 ∧ w.cell? ⟨b, off + i, none⟩ = some (.int .u8 (k : Int)) := by
  obtain ⟨b, off, e, hb, hc⟩ := h.rows.cells (by rw [List.length_map, h.len]; omega)
  have hx : ks[i]? = some (ks[i]'(by rw [h.len]; exact hi)) := List.getElem?_eq_getElem _
  have := hc i _ (by rw [List.getElem?_map, hx]; rfl) 0 _ rfl
  rw [Nat.mul_one, Nat.add_zero] at this
  exact ⟨b, off, _, e, hb, hx, h.small _ (List.mem_of_getElem? hx), this⟩
theorem open_keys {H : Type} {enc : TypeId × Value → H} {W : World} {base : Nat} {v : Value} {d : DataW H} {p : List MemPlace} (hv : Value.okWide Try.prog W .any base 55 v)
    (h : DataW.Trod enc Try.prog W 0 (fun _ => true) true 55 v d p) : ∃ A n c ks, v = .slice A n c ∧ (n ≤ c ∧ c ≤ maxLen) ∧ KeysAt W A n ks := by
  obtain ⟨A, n, c, rs, rfl, hl, hm, hg, hr⟩ := open_many (z := 1) (by decide) Try.underlying55 cellsU (fun cs => ∃ k : Nat, k ≤ 255 ∧ cs = [.int .u8 (k : Int)]) (fun m k cs x ht => by
    obtain ⟨v, hv, _, hw⟩ := DataW.trod_int Try.underlying5 ht
    have hb := bounds_u8 hw
    exact ⟨v.toNat, by omega, by rw [hv, Int.toNat_of_nonneg hb.1]⟩) (fun cs ⟨q, _, he⟩ => by rw [he]; rfl) hv h
  have : ∀ rs : List (List Value), (∀ r ∈ rs, ∃ k : Nat, k ≤ 255 ∧ r = [.int .u8 (k : Int)]) → ∃ ks : List Nat, (∀ k ∈ ks, k ≤ 255) ∧ rs = ks.map fun (k : Nat) => [Value.int .u8 (k : Int)] := by
    intro rs
    induction rs with
    | nil => intro _; exact ⟨[], by simp, rfl⟩
    | cons r t ih =>
      intro hr
      obtain ⟨q, hq, e⟩ := hr r (List.mem_cons_self ..)
      obtain ⟨ps, hps, e2⟩ := ih (fun x hx => hr x (List.mem_cons_of_mem _ hx))
      refine ⟨q :: ps, fun k hk => ?_, by rw [e, e2]; rfl⟩
      rcases List.mem_cons.1 hk with rfl | hk
      · exact hq
      · exact hps k hk
  obtain ⟨ks, hks, e⟩ := this rs hg
  exact ⟨A, n, c, ks, rfl, hm, by rw [← hl, e, List.length_map], hks, e ▸ hr⟩
end Go.Proofs.Ytkomehplcacbcaa
