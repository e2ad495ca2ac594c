/-
  The contracts of journal's get and laidOut.
-/
import Derived.Test.YtlamllnflbdcjaaJlay
namespace Go.Proofs.Ytlamllnflbdcjaa
open Go.RowKit
open Dk (zeros zeros_length)
open Hd (Head rightB pageH)
open Jn (Chg)

/-- the pages that are read from a place on -/
def rdN (s : Dk.St) (a n : Nat) : List (List UInt8) := (List.range n).map fun (i : Nat) => Dk.readP s ((a + i : Nat) : Int)
theorem rdN_length (s : Dk.St) (a n : Nat) : (rdN s a n).length = n := by unfold rdN; simp
def gtK (s : Dk.St) (a n k : Nat) : List (List UInt8) := rdN s a k ++ List.replicate (n - k) zeros
theorem gtK_length (s : Dk.St) (a n k : Nat) (h : k ≤ n) : (gtK s a n k).length = n := by unfold gtK; simp [rdN_length]; omega
theorem gtK_step (s : Dk.St) (a n k : Nat) (h : k < n) : (gtK s a n k).set k (Dk.readP s ((a + k : Nat) : Int)) = gtK s a n (k + 1) := by
  unfold gtK
  rw [List.set_append_right _ _ (by rw [rdN_length]; exact Nat.le_refl _), rdN_length, Nat.sub_self, show n - k = (n - (k + 1)) + 1 by omega, List.replicate_succ, List.set_cons_zero]
  have e : rdN s a (k + 1) = rdN s a k ++ [Dk.readP s ((a + k : Nat) : Int)] := by unfold rdN; rw [List.range_succ, List.map_append]; rfl
  rw [e]
  simp
structure GetI (w : World) (d l m : Nat) (s : Dk.St) (r g z b a n k : Nat) (W : World) : Prop where
  disk : DiskAt W d l m s
  reg : RowAt W r (regVals d g z)
  tab : RowsAt W b (gtK s a n k)
  lt : b < W.heap.size
  fresh : w.heap.size ≤ b
  apart : b ≠ r
  old : d < w.heap.size ∧ l < w.heap.size ∧ m < w.heap.size
  below : Below w.heap.size w W
theorem GetI.call {w : World} {d l m : Nat} {s : Dk.St} {r g z b a n k : Nat} {W W' : World} (h : GetI w d l m s r g z b a n k W) (hb : Below W.heap.size W W') : GetI w d l m s r g z b a n k W' :=
  ⟨h.disk.below hb, h.reg.below hb h.reg.lt, h.tab.below hb h.lt, Nat.lt_of_lt_of_le h.lt hb.size, h.fresh, h.apart, h.old, h.below.trans (hb.mono h.below.size)⟩
theorem GetI.put {w : World} {d l m : Nat} {s : Dk.St} {r g z b a n k : Nat} {W : World} (h : GetI w d l m s r g z b a n k W) (hk : k < n) (hp : (Dk.readP s ((a + k : Nat) : Int)).length = 64) : GetI w d l m s r g z b a n (k + 1) (W.setCells b (k * 64) (byteVals (Dk.readP s ((a + k : Nat) : Int)))) := by
  have ho : Only [b] W (W.setCells b (k * 64) (byteVals (Dk.readP s ((a + k : Nat) : Int)))) := Only.setCells b (by simp) _ _ _ (Only.refl _ _)
  have hf := h.fresh
  have hold := h.old
  exact { disk := h.disk.only ho (by simp; omega) (by simp; omega) (by simp; omega)
          reg := h.reg.only ho (by simp; exact Ne.symm h.apart)
          tab := by
            have := h.tab.put k (by rw [gtK_length _ _ _ _ (by omega)]; exact hk) _ hp
            rw [gtK_step _ _ _ _ hk] at this
            exact this
          lt := by rw [heap_setCells]; exact h.lt
          fresh := h.fresh, apart := h.apart, old := h.old
          below := below_setCells _ h.fresh _ _ _ h.below }
theorem getI_start {w : World} {d l m : Nat} {s : Dk.St} (g z a n : Nat) (h : DiskAt w d l m s) (t1 t2 : TypeId) : GetI w d l m s w.heap.size g z (w.heap.size + 1) a n 0 ((w.alloc (.cells (regVals d g z).toArray t1)).alloc (.cells (zeroRow n) t2)) where
  disk := (h.alloc _).alloc _
  reg := (rowAt_new w _ t1).alloc _
  tab := by
    have := rowsAt_new (w.alloc (.cells (regVals d g z).toArray t1)) n t2
    have e : gtK s a n 0 = List.replicate n zeros := by unfold gtK rdN; simp
    rw [e]
    simpa using this
  lt := by simp
  fresh := by omega
  apart := by omega
  old := ⟨h.dlt, h.llt, h.mlt⟩
  below := ((Below.refl _ _).alloc (Nat.le_refl _) _).alloc (by simp) _

set_option maxRecDepth 100000 in
set_option maxHeartbeats 2000000 in
theorem getp_any {w : World} {d l m : Nat} {s : Dk.St} (h : DiskAt w d l m s) (g z a n : Nat) (ha : a ≤ 1000) (hn : n ≤ 1000) (hup : s.down = false) (hreg : a + n ≤ s.last.length) :
    Calls Try.prog 36 #[regV d g z, .int .i64 (a : Int), .int .i64 (n : Int)] w fun e w' => e = .returned (.tuple #[.slice (some ⟨w.heap.size + 1, 0, none⟩) n n, .int .i64 0]) ∧ RowsAt w' (w.heap.size + 1) (rdN s a n) ∧ Below w.heap.size w w' := by
  have HS := Lib.hid (getI_start g z a n h 61 31)
  have hmk := run_make_pages (w.alloc (.cells (regVals d g z).toArray 61)) n hn
  have HOK := Lib.hid h.ok
  have HRE : Hid (∀ k, k < n → Dk.reachE s ((a + k : Nat) : Int) = 0) := Lib.hid (fun k hk => Dk.reach_mk hup (Dk.has_mk (by omega)))
  clear h hup hreg
  unfold regV
  unfold regVals at HS hmk
  go_enter Try.func36, Try.ntmps36
  go_wp2_with fail
  clear hmk
  generalize ((w.alloc (.cells _ 61)).alloc (.cells (zeroRow n) 31)) = w1 at HS ⊢
  generalize hrb : w.heap.size = rb at HS ⊢
  have HRB := Lib.hid hrb
  clear hrb
  go_loopw [16] (fun i wr => ∃ k : Nat, k ≤ n ∧ i = .int .i64 k ∧ GetI w d l m s rb g z (rb + 1) a n k wr) (fun i _ => n - (intOf i).toNat)
  case atStart => exact ⟨0, Nat.zero_le _, rfl, HS.out⟩
  case round =>
    obtain ⟨k, hk, rfl, hget⟩ := hrel
    have HI := Lib.hid hget
    clear hget HS
    by_cases hlt : k < n
    · have HX : Hid ((a : Int) + (k : Int) = ((a + k : Nat) : Int)) := Lib.hid (by omega)
      have HPL := Lib.hid (Dk.readP_len HOK.out ((a + k : Nat) : Int))
      have HPUT := Lib.hid (fun (W : World) (hW : GetI w d l m s rb g z (rb + 1) a n k W) => hW.put hlt HPL.out)
      have HRD : Hid (∀ W, GetI w d l m s rb g z (rb + 1) a n k W → Calls Try.prog 12 #[.pointer (some ⟨d, 0, none⟩), .int .i64 ((a + k : Nat) : Int)] W fun e w' => e = .returned (.tuple #[pageV (Dk.readP s ((a + k : Nat) : Int)), .int .i64 0]) ∧ Below W.heap.size W w') := Lib.hid (fun W hW => by
        have := read_any hW.disk ((a + k : Nat) : Int)
        rw [HRE.out k hlt] at this
        exact this)
      generalize Dk.readP s ((a + k : Nat) : Int) = p at HPL HRD HPUT
      have hr0 := HI.out.reg.cell 0 _ rfl
      go_wp2_with fail
      rw [HX.out]
      refine (HRD.out _ HI.out).mono ?_
      rintro e W2 ⟨rfl, hB2⟩
      have HI2 := Lib.hid (HI.out.call hB2)
      clear HI hB2 hr0 HRD
      have HTL : Hid (k < (gtK s a n k).length) := Lib.hid (by rw [gtK_length _ _ _ _ hk]; exact hlt)
      go_wp2_with (first
        | ((with_reducible refine wpList_store_new rfl (.tmp 10) (.tmp 26) rfl rfl ?_ ?_ HPL.out ?_); (exact rfl); (exact rfl); intro W3 hP hB3 hz3; have HI3 := Lib.hid (HI2.out.call hB3); have HP3 := Lib.hid hP; clear HI2 hP hB3 hz3; generalize W2.heap.size = B at HP3 ⊢)
        | (with_reducible refine wpList_load_page HP3.out rfl (.tmp 10) rfl rfl ?_)
        | ((with_reducible refine wpList_store_row HI3.out.tab k HTL.out HPL.out rfl (.tmp 34) (.tmp 33) rfl ?_ ?_ ?_); (exact rfl); (exact rfl)))
      have HI4 := Lib.hid (HPUT.out _ HI3.out)
      go_roundw
      case rel => exact ⟨k + 1, by omega, by go_num, HI4.out⟩
      case measure => simp [intOf]; omega
    · obtain rfl : k = n := by omega
      have HE : Hid (gtK s a k k = rdN s a k) := Lib.hid (by unfold gtK; simp)
      have HT := Lib.hid HI.out.tab
      rw [HE.out] at HT
      go_wp2_with fail
      go_ret2
      rw [HRB.out]
      exact ⟨rfl, HT.out, by rw [← HRB.out]; exact HI.out.below⟩

/-! ### a table of changes -/
structure ChTab (w : World) (b : Nat) (cs : List Chg) : Prop where
  size : ∀ c ∈ cs, c.page.length = 64
  range : ∀ i c, cs[i]? = some c → w.rangeAt b (i * 65) (chgVals c)
  free : w.there b 0 (cs.length * 65)
theorem ChTab.block {w w' : World} {b : Nat} {cs : List Chg} (h : ChTab w b cs) (hb : w'.heap[b]? = w.heap[b]?) : ChTab w' b cs := ⟨h.size, fun i c hc => rangeAt_block (h.range i c hc) hb, there_block h.free hb⟩
theorem ChTab.below {w w' : World} {b : Nat} {cs : List Chg} (h : ChTab w b cs) (hb : Below w.heap.size w w') (hl : b < w.heap.size) : ChTab w' b cs := h.block (hb.block b hl)
theorem ChTab.thereAt {w : World} {b : Nat} {cs : List Chg} (h : ChTab w b cs) (i : Nat) (hi : i < cs.length) : w.there b (i * 65) 65 := fun j hj => by
  have := h.free (i * 65 + j) (by have : (i + 1) * 65 ≤ cs.length * 65 := Nat.mul_le_mul_right _ hi; omega)
  rwa [Nat.zero_add] at this
theorem ChTab.put {w : World} {b : Nat} {cs : List Chg} (h : ChTab w b cs) (i : Nat) (hi : i < cs.length) (c : Chg) (hp : c.page.length = 64) : ChTab (w.setCells b (i * 65) (chgVals c)) b (cs.set i c) where
  size := fun q hq => by
    rcases List.mem_or_eq_of_mem_set hq with h1 | h1
    · exact h.size q h1
    · rw [h1]; exact hp
  range := fun j q hq => by
    rw [List.getElem?_set] at hq
    by_cases e : i = j
    · subst e
      rw [if_pos rfl, if_pos hi] at hq
      injection hq with hq
      subst hq
      exact World.rangeAt_setCells_same _ _ _ _ (by rw [chgVals_length hp]; exact h.thereAt i hi)
    · rw [if_neg e] at hq
      have hql : q.page.length = 64 := h.size q (List.mem_of_getElem? hq)
      refine World.rangeAt_setCells_apart (h.range j q hq) _ _ _ (Or.inr ?_)
      rw [chgVals_length hp, chgVals_length hql]
      rcases Nat.lt_or_gt_of_ne e with g | g
      · have : (i + 1) * 65 ≤ j * 65 := Nat.mul_le_mul_right _ g; omega
      · have : (j + 1) * 65 ≤ i * 65 := Nat.mul_le_mul_right _ g; omega
  free := by rw [List.length_set]; exact World.there_setCells h.free _ _ _
def zeroTab (n : Nat) : Array Value := madeCells (Value.agg chgZero).cells (n * 65)
theorem info_chg : (Try.prog.info? 46).map (fun i => (i.zero, i.size, i.bytes)) = some (some (.agg chgZero), 65, 72) := by kernel_rfl
theorem run_make_chgs (w : World) (n : Nat) (hn : n ≤ 1000) : (Instr.makeSlice 22 (.int .i64 (n : Int)) (.int .i64 (n : Int))).run Try.prog w = .ok (.slice (some ⟨w.heap.size, 0, none⟩) n n) (w.alloc (.cells (zeroTab n) 46)) := by
  obtain ⟨i, hi, hz, hs, hb⟩ := info_parts info_chg
  have := run_make (P := Try.prog) w 22 46 i (.agg chgZero) Try.underlying22 hi hz .i64 .i64 (n : Int) (n : Int) (by omega) (by omega) (by rw [hb]; omega) (by omega)
  rw [hs, Int.toNat_natCast] at this
  exact this
theorem zeroTab_at (n i j : Nat) (hi : i < n) (hj : j < 65) : (zeroTab n)[i * 65 + j]? = chgZero[j]? := by
  have hs : (Value.agg chgZero).cells = chgZero := rfl
  unfold zeroTab
  rw [hs]
  unfold madeCells
  rw [chgZero_size]
  have hlt : i * 65 + j < n * 65 := by have : (i + 1) * 65 ≤ n * 65 := Nat.mul_le_mul_right _ hi; omega
  rw [Array.getElem?_map, Array.getElem?_range, if_pos hlt]
  have hm : (i * 65 + j) % 65 = j := by omega
  simp only [Option.map_some, hm]
  rw [getElem!_def, Array.getElem?_eq_getElem (by rw [chgZero_size]; exact hj)]
theorem zeroTab_size (n : Nat) : (zeroTab n).size = n * 65 := by unfold zeroTab madeCells; simp
theorem chTab_new (w : World) (n : Nat) (t : TypeId) : ChTab (w.alloc (.cells (zeroTab n) t)) w.heap.size (List.replicate n ⟨0, zeros⟩) where
  size := fun c hc => by rw [List.eq_of_mem_replicate hc]; exact zeros_length
  range := fun i c hc => by
    have hi : i < n := by
      have := (List.getElem?_eq_some_iff.1 hc).1
      simpa using this
    have hc' : c = ⟨0, zeros⟩ := List.eq_of_mem_replicate (List.mem_of_getElem? hc)
    subst hc'
    intro j v hv
    have hj : j < 65 := by
      have := (List.getElem?_eq_some_iff.1 hv).1
      rw [chgVals_length zeros_length] at this; exact this
    rw [World.cell?_alloc_mark, zeroTab_at n i j hi hj]
    unfold chgZero
    rw [List.getElem?_toArray]; exact hv
  free := there_new w _ t _ (by rw [zeroTab_size]; simp)
theorem wpList_store_chg {ops : Array Oper} {rest : List Oper} {op : Oper} {a : Act} {Q : Exit → Act → World → Prop} {w : World} {b : Nat} {cs : List Chg} (h : ChTab w b cs) (i : Nat) (hi : i < cs.length) {c : Chg} (hp : c.page.length = 64) (hgd : op.guard = none) (x y : Operand) (ho : op.op = .store 46 x y)
    (hx : a.eval x = .pointer (some ⟨b, i * 65, none⟩)) (hy : a.eval y = chgV c) (hK : wpList Try.prog ops Q rest (a.put op.dst undef) (w.setCells b (i * 65) (chgVals c))) : wpList Try.prog ops Q (op :: rest) a w :=
  wpList_store_mid hgd 46 x y ho b (i * 65) (chgVals c).toArray hx hy (by rw [List.size_toArray, chgVals_length hp]; exact h.thereAt i hi) (by rw [chg_info, List.size_toArray, chgVals_length hp]) (all_oneCell_toArray (chgVals_one c)) (by simpa using hK)
theorem ChTab.slice {w : World} {b : Nat} {cs : List Chg} (h : ChTab w b cs) (hlt : b < w.heap.size) {L : List Nat} (hb : b ∉ L) : ChAt w (some ⟨b, 0, none⟩) L cs := fun _ =>
  ⟨b, 0, rfl, hlt, hb, fun i c hc => by rw [Nat.zero_add]; exact h.range i c hc⟩
end Go.Proofs.Ytlamllnflbdcjaa
