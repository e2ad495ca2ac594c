/-
  Rows of pages in memory, and the contract of page.Join over one.
-/
import Derived.Test.YtgaggnjpnnahjaaPbuild
namespace Go.Proofs.Ytgaggnjpnnahjaa
open Go.RowKit

/-- a row of pages in memory -/
structure PageRow (w : World) (A : Option Addr) (n : Nat) (ps : List (List UInt8)) : Prop where
  len : ps.length = n
  small : n ≤ maxLen
  size : ∀ i, i < n → (ps.getD i []).length = 64
  cells : 0 < n → ∃ b off, A = some ⟨b, off, none⟩ ∧ b < w.heap.size ∧ ∀ i, i < n → w.rangeAt b (off + i * 64) (byteVals (ps.getD i []))
theorem PageRow.below {N : Nat} {w w' : World} {A : Option Addr} {n : Nat} {ps : List (List UInt8)} (h : PageRow w A n ps) (hb : Below N w w') (hN : ∀ b off, A = some ⟨b, off, none⟩ → b < N) : PageRow w' A n ps where
  len := h.len
  small := h.small
  size := h.size
  cells := fun hn => by
    obtain ⟨b, off, rfl, hlt, hc⟩ := h.cells hn
    have hbn := hN b off rfl
    exact ⟨b, off, rfl, Nat.lt_of_lt_of_le hlt hb.size, fun i hi j v hv => (hb.cell (p := ⟨b, off + i * 64 + j, none⟩) hbn).trans (hc i hi j v hv)⟩

theorem flat_one (ps : List (List UInt8)) (k : Nat) (h : k < ps.length) : (ps.take (k + 1)).flatten = (ps.take k).flatten ++ ps.getD k [] := by
  rw [take_one ps [] k h, List.flatten_append]; simp
theorem flat_length (ps : List (List UInt8)) (n : Nat) (hl : ps.length = n) (hs : ∀ i, i < n → (ps.getD i []).length = 64) : ∀ k, k ≤ n → (ps.take k).flatten.length = k * 64
  | 0, _ => by simp
  | k + 1, hk => by
    rw [flat_one ps k (by omega), List.length_append, flat_length ps n hl hs k (by omega), hs k (by omega)]; omega

/-- a builder stays what it is while blocks are made behind -/
theorem Built.below {N B b : Nat} {l : List UInt8} {w w' : World} (h : Built B b l w) (hb : Below N w w') (hN : w.heap.size ≤ N) : Built B b l w' := by
  obtain ⟨hB, v, hbk, hown, hne⟩ := h
  have hlt := heap_lt hbk
  refine ⟨hB, v, (hb.block b (by omega)).trans hbk, ⟨hown.1, ?_⟩, hne⟩
  rcases hown.2 with h1 | ⟨g, cap, cur, hv, hg, hgk, r⟩
  · exact Or.inl h1
  · have := heap_lt hgk
    exact Or.inr ⟨g, cap, cur, hv, hg, (hb.block g (by omega)).trans hgk, r⟩

set_option maxHeartbeats 2000000 in
set_option maxRecDepth 100000 in
/-- Grow by nothing, of a new builder -/
theorem grow_zero (B b : Nat) (w : World) (hB : B ≤ b) (hbk : w.heap[b]? = some (.cells #[.pointer none, .slice none 0 0] 44 (0, 0))) :
    Calls Try.prog 22 #[.pointer (some ⟨b, 0, none⟩), .int .i64 0] w fun e w' => e = .returned (.tuple #[]) ∧ (w'.heap[b]? = some (.cells #[.pointer (some ⟨b, 0, none⟩), .slice none 0 0] 44 (0, 0)) ∧ Below B w w') := by
  have hbk1 : (w.setCell ⟨b, 0, none⟩ (.pointer (some ⟨b, 0, none⟩))).heap[b]? = some (.cells #[.pointer (some ⟨b, 0, none⟩), .slice none 0 0] 44 (0, 0)) := by
    simp [World.setCell, Array.getElem?_modify, hbk]
  have HC := Lib.hid (copyCheck_fresh b w (by rw [Lib.cell_of_heap hbk]; rfl) (by simp [World.shape?, hbk]) (Lib.frozen_of_heap hbk 0))
  have HB1 := Lib.hid ((Below.refl B w).setCell (p := ⟨b, 0, none⟩) hB (.pointer (some ⟨b, 0, none⟩)))
  generalize w.setCell ⟨b, 0, none⟩ (.pointer (some ⟨b, 0, none⟩)) = w1 at hbk1 HC HB1
  have c1 : w1.cell? ⟨b, 1, none⟩ = some (.slice none 0 0) := by rw [Lib.cell_of_heap hbk1]; rfl
  have HK : Hid (w1.drew.heap[b]? = _) := Lib.hid hbk1
  clear hbk1 hbk
  go_enter Try.func22, Try.ntmps22
  go_wp2_with (go_at_call 25; refine HC.out.mono ?_; rintro e w' ⟨rfl, rfl⟩)
  go_region
  go_wp2
  go_end0
  exact ⟨rfl, HK.out, HB1.out.drew⟩

theorem new_builder (w : World) : (w.alloc (.cells #[.pointer none, .slice none 0 0] 44)).heap[w.heap.size]? = some (.cells #[.pointer none, .slice none 0 0] 44 (0, 0)) := by
  unfold World.alloc; exact Array.getElem?_push_size

set_option maxHeartbeats 1000000 in
theorem join_zero (A : Option Addr) (c : Nat) (w : World) :
    Calls Try.prog 17 #[.slice A 0 c] w fun e w' => e = .returned (.string (strOf [])) ∧ Below w.heap.size w w' := by
  have HB : Hid (Below w.heap.size w (w.alloc (.cells #[.pointer none, .slice none 0 0] 44))) := Lib.hid ((Below.refl _ _).alloc (Nat.le_refl _) _)
  have HG := Lib.hid (grow_zero w.heap.size w.heap.size _ (Nat.le_refl _) (new_builder w))
  go_enter Try.func17, Try.ntmps17
  go_wp2_with (go_at_call 22; refine HG.out.mono ?_; rintro e w1 ⟨rfl, hk, hb⟩)
  have HS := Lib.hid (string_nil w.heap.size w.heap.size _ w1 hk)
  clear hk
  go_loop [12] (fun i => i = .int .i64 0) (fun _ => 0)
  case atStart => exact rfl
  case round =>
    obtain rfl := hrel
    go_wp2_with (go_at_call 24; refine HS.out.mono ?_; rintro e w2 ⟨rfl, hb2⟩)
    go_ret
    exact ⟨rfl, (HB.out.trans hb).trans hb2⟩

set_option maxHeartbeats 2000000 in
theorem join_row (b off n c : Nat) (ps : List (List UInt8)) (w : World) (hl : ps.length = n) (hn : n ≤ 1000) (hpos : 0 < n) (hb : b < w.heap.size)
    (hsize : ∀ i, i < n → (ps.getD i []).length = 64) (hcell : ∀ i, i < n → w.rangeAt b (off + i * 64) (byteVals (ps.getD i []))) :
    Calls Try.prog 17 #[.slice (some ⟨b, off, none⟩) n c] w fun e w' => e = .returned (.string (strOf ps.flatten)) ∧ Below w.heap.size w w' := by
  have HB : Hid (Below w.heap.size w (w.alloc (.cells #[.pointer none, .slice none 0 0] 44))) := Lib.hid ((Below.refl _ _).alloc (Nat.le_refl _) _)
  have hg := grow_new w.heap.size w.heap.size (n * 64) _ (Nat.le_refl _) (new_builder w) (by simp) (by omega)
  rw [Int.natCast_mul] at hg
  have HG := Lib.hid hg
  clear hg
  have HC := Lib.hid hcell
  have HL := Lib.hid hl
  have HZ := Lib.hid hsize
  have HF := Lib.hid (flat_length ps n hl hsize)
  clear hcell hl hsize
  go_enter Try.func17, Try.ntmps17
  go_wp2_with fail
  refine HG.out.mono ?_
  rintro e w1 ⟨rfl, hk1, hb1⟩
  have HK1 := Lib.hid hk1
  have HB1 := Lib.hid (HB.out.trans hb1)
  clear hk1 hb1 HG HB
  go_wp2_with fail
  go_loopw [12] (fun i wr => ∃ k : Nat, k ≤ n ∧ i = .int .i64 k ∧ Built w.heap.size w.heap.size (ps.take k).flatten wr ∧ Below w.heap.size w wr) (fun i _ => n - (intOf i).toNat)
  case atStart => exact ⟨0, Nat.zero_le _, rfl, HK1.out, HB1.out⟩
  case round =>
    obtain ⟨k, hk, rfl, hbk, hbel⟩ := hrel
    have HBK := Lib.hid hbk
    clear hbk
    have hfl := HF.out k hk
    by_cases hlt : k < n
    · have HS := Lib.hid (flat_one ps k (by rw [HL.out]; exact hlt))
      have hcr : Hid (wr.rangeAt b (off + k * 64) (byteVals (ps.getD k []))) := Lib.hid fun j v hv => (hbel.cell (p := ⟨b, off + k * 64 + j, none⟩) hb).trans (HC.out k hlt j v hv)
      have hz := Lib.hid (HZ.out k hlt)
      generalize ps.getD k [] = p at hcr HS hz
      have hlen : Hid ((byteVals p).length = 64) := Lib.hid (by rw [byteVals_length]; exact hz.out)
      have hfl' : (ps.take k).flatten.length ≤ 64000 := by omega
      clear hfl
      generalize (ps.take k).flatten = l at HBK HS hfl'
      go_wp2_with (first
        | (with_reducible refine wpList_load_mid rfl 23 (.tmp 14) rfl b (off + k * 64) rfl (byteVals p) _ hcr.out Try.underlying23 rfl (page_info.trans (congrArg some hlen.out.symm)) ?_)
        | ((with_reducible refine wpList_store_new rfl (.tmp 5) (.tmp 15) rfl rfl ?_ ?_ hz.out ?_); (exact rfl); (exact rfl); intro W2 hP hB2 hz2
           have hsl := run_slice_page_all W2 wr.heap.size
           have HW := Lib.hid (write_any w.heap.size w.heap.size l ⟨wr.heap.size, 0, none⟩ 64 64 p W2 (HBK.out.below hB2 (Nat.le_refl _)) hz.out (fun j u hu => by rw [Addr.add_mid]; exact hP.range j u hu) (by omega) (Nat.le_trans hbel.size hB2.size)))
        | (go_at_call 23; refine HW.out.mono ?_; rintro e w3 ⟨rfl, hk3, hb3⟩))
      go_roundw
      case rel => exact ⟨k + 1, by omega, by go_num, by rw [HS.out]; exact hk3, (hbel.trans (hB2.mono hbel.size)).trans hb3⟩
      case measure => simp [intOf]; omega
    · have HKK : ps.take k = ps := List.take_of_length_le (by rw [HL.out]; omega)
      obtain rfl : k = n := by omega
      rw [HKK] at HBK hfl
      have HS := Lib.hid (string_some w.heap.size w.heap.size ps.flatten wr HBK.out (fun e => by rw [e] at hfl; simp at hfl; omega) (by omega))
      clear hfl HKK
      go_wp2_with (go_at_call 24; refine HS.out.mono ?_; rintro e w2 ⟨rfl, hb2⟩)
      go_ret
      exact ⟨rfl, hbel.trans hb2⟩

theorem join_any (A : Option Addr) (n c : Nat) (ps : List (List UInt8)) (w : World) (h : PageRow w A n ps) (hn : n ≤ 1000) :
    Calls Try.prog 17 #[.slice A n c] w fun e w' => e = .returned (.string (strOf ps.flatten)) ∧ Below w.heap.size w w' := by
  by_cases h0 : n = 0
  · subst h0
    have hs : ps = [] := List.eq_nil_of_length_eq_zero h.len
    subst hs
    exact join_zero A c w
  · obtain ⟨b, off, rfl, hlt, hc⟩ := h.cells (by omega)
    exact join_row b off n c ps w h.len hn (by omega) hlt h.size hc
end Go.Proofs.Ytgaggnjpnnahjaa
