/-
  The contract of sum.Pages over a row of pages.
-/
import Derived.Test.YtedoafnjglikdaaMore
import Derived.Deep.MidRow
import Derived.Laws.IdiomStrings
namespace Go.Proofs.Ytedoafnjglikdaa
open Go.RowKit

def byteVals (p : ByteArray) : List Value := p.data.toList.map fun c => Value.int .u8 (c.toNat : Int)
theorem byteVals_length (p : ByteArray) : (byteVals p).length = p.size := by simp [byteVals]
theorem byteVals_one (p : ByteArray) : ∀ v ∈ byteVals p, v.oneCell' = true := by
  intro v hv
  obtain ⟨c, _, rfl⟩ := List.mem_map.1 hv
  rfl
theorem below_setCells {B : Nat} {a : World} (b : Nat) (hb : B ≤ b) : ∀ (vs : List Value) (o : Nat) (w : World), Below B a w → Below B a (w.setCells b o vs)
  | [], _, _, h => h
  | v :: r, o, w, h => by
    rw [World.setCells]
    exact below_setCells b hb r (o + 1) _ (h.setCell (by exact hb) v)
theorem there_new (wr : World) (Z : Array Value) (t : TypeId) (n : Nat) (h : n ≤ Z.size) : (wr.alloc (.cells Z t)).there wr.heap.size 0 n := by
  intro j hj
  rw [Nat.zero_add, World.cell?_alloc_mark, World.frozen?_alloc_mark, Array.getElem?_eq_getElem (by omega)]
  exact ⟨rfl, by simp⟩
theorem page_back (W : World) (B : Nat) (p : ByteArray) (hp : p.size = 64) (hc : W.rangeAt B 0 (byteVals p)) :
    (convert 34 9 (.slice (some ⟨B, 0, none⟩) 64 64)).run Try.prog W = .ok (.string p) W := by
  have h := run_convert_bytes_back (P := Try.prog) W 34 9 5 ⟨B, 0, none⟩ 64 p.data.toList Try.underlying34 Try.underlying5 Try.underlying9 (fun j hj => by
    rw [Addr.add_mid]
    refine hc j _ ?_
    unfold byteVals
    rw [List.getElem?_map, List.getElem?_eq_getElem hj]; rfl)
  have e : p.data.toList.length = 64 := by rw [← hp]; simp
  have e2 : (⟨p.data.toList.toArray⟩ : ByteArray) = p := by simp
  rw [e, e2] at h
  exact h
theorem page_info : (Try.prog.info? 33).map (·.size) = some 64 := by kernel_rfl

/-- a page is stored into the new variable of the round -/
theorem wpList_store_page {ops : Array Oper} {rest : List Oper} {op : Oper} {a : Act} {Q : Exit → Act → World → Prop} {w wr : World} {Z : Array Value} {t : TypeId} {p : ByteArray} (hgd : op.guard = none) (x y : Operand) (ho : op.op = .store 33 x y)
    (hx : a.eval x = .pointer (some ⟨wr.heap.size, 0, none⟩)) (hy : a.eval y = .agg (byteVals p).toArray) (hZ : Z.size = 64) (hp : p.size = 64) (hbel : Below w.heap.size w wr)
    (h : ∀ W2, Below w.heap.size w W2 → (convert 34 9 (.slice (some ⟨wr.heap.size, 0, none⟩) 64 64)).run Try.prog W2 = .ok (.string p) W2 → wpList Try.prog ops Q rest (a.put op.dst undef) W2) :
    wpList Try.prog ops Q (op :: rest) a (wr.alloc (.cells Z t)) := by
  have hlen : (byteVals p).toArray.size = 64 := by rw [List.size_toArray, byteVals_length, hp]
  have ht : (wr.alloc (.cells Z t)).there wr.heap.size 0 (byteVals p).toArray.size := there_new wr Z t _ (by omega)
  refine wpList_store_mid hgd 33 x y ho wr.heap.size 0 (byteVals p).toArray hx hy ht (by rw [page_info, hlen]) (all_oneCell_toArray (byteVals_one p)) (h _ ?_ ?_)
  · exact below_setCells wr.heap.size hbel.size _ _ _ (hbel.alloc hbel.size _)
  · refine page_back _ _ p hp (World.rangeAt_setCells_same _ _ _ _ ?_)
    simpa using ht

set_option maxHeartbeats 400000 in
theorem pages_row (b off n c : Nat) (ps : List ByteArray) (w : World) (hl : ps.length = n) (hn : n ≤ 40) (hb : b < w.heap.size)
    (hsize : ∀ i, i < n → (ps.getD i ByteArray.empty).size = 64) (hcell : ∀ i, i < n → w.rangeAt b (off + i * 64) (byteVals (ps.getD i ByteArray.empty))) :
    Calls Try.prog 14 #[.slice (some ⟨b, off, none⟩) n c] w fun e w' => e = .returned (.int .u32 (Mt.joinN (Mt.run (0, 0) (bytesOf ps)))) ∧ Below w.heap.size w w' := by
  have HC := Lib.hid hcell; clear hcell
  have HL := Lib.hid hl; clear hl
  have HZ := Lib.hid hsize; clear hsize
  have hf := Mt.fit_zero
  go_enter Try.func14, Try.ntmps14
  go_wp2_with (go_at_call 15; refine (split_any _ _ (by omega) (by omega)).mono ?_; rintro e w' ⟨rfl, rfl⟩)
  go_loopw [3, 4, 13] (fun x y i wr => ∃ k : Nat, k ≤ n ∧ i = .int .i64 k ∧ x = .int .u32 (Mt.run (0, 0) (bytesOf (ps.take k))).1 ∧ y = .int .u32 (Mt.run (0, 0) (bytesOf (ps.take k))).2 ∧ Below w.heap.size w wr) (fun _ _ i _ => n - (intOf i).toNat)
  case atStart => exact ⟨0, Nat.zero_le _, rfl, rfl, rfl, Below.refl _ _⟩
  case round =>
    obtain ⟨k, hk, rfl, rfl, rfl, hbel⟩ := hrel
    have hr := Mt.fit_run (0, 0) (bytesOf (ps.take k)) hf
    obtain ⟨r1, r2, r3, r4⟩ := id hr
    have HR := Lib.hid hr; clear hr
    by_cases hlt : k < n
    · have HS : Hid (Mt.run (0, 0) (bytesOf (ps.take (k + 1))) = Mt.run (Mt.run (0, 0) (bytesOf (ps.take k))) (ps.getD k ByteArray.empty).data.toList) :=
        Lib.hid (by rw [take_one ps k (by rw [HL.out]; exact hlt), bytesOf_snoc, Mt.run_append])
      have hc := HC.out k hlt
      have hz := Lib.hid (HZ.out k hlt)
      generalize ps.getD k ByteArray.empty = p at hc HS hz
      have hlen : Hid ((byteVals p).length = 64) := Lib.hid (by rw [byteVals_length]; exact hz.out)
      have hcr : Hid (wr.rangeAt b (off + k * 64) (byteVals p)) := Lib.hid fun j v hv => (hbel.cell (p := ⟨b, off + k * 64 + j, none⟩) hb).trans (hc j v hv)
      clear hc
      go_wp2_with (first
        | (with_reducible refine wpList_load_mid rfl 33 (.tmp 15) rfl b (off + k * 64) rfl (byteVals p) _ hcr.out Try.underlying33 rfl (page_info.trans (congrArg some hlen.out.symm)) ?_)
        | (refine wpList_store_page rfl (.tmp 6) (.tmp 16) rfl rfl rfl rfl hz.out hbel ?_; intro W2 hB2 hcv)
        | (go_at_call 16; refine (add_any _ _ p _ HR.out (by rw [hz.out]; unfold maxLen; omega)).mono ?_; rintro e w' ⟨rfl, rfl⟩))
      go_roundw
      case rel => exact ⟨k + 1, by omega, by go_num, by rw [HS.out]; rfl, by rw [HS.out]; rfl, hB2⟩
      case measure => simp [intOf]; omega
    · have HK : Hid (ps.take k = ps) := Lib.hid (List.take_of_length_le (by rw [HL.out]; omega))
      go_wp2_with (go_at_call 17; refine (join_any _ _ _ r1 r2 r3 r4).mono ?_; rintro e w' ⟨rfl, rfl⟩)
      go_ret
      exact ⟨ret_int (by rw [HK.out]), hbel⟩
end Go.Proofs.Ytedoafnjglikdaa
