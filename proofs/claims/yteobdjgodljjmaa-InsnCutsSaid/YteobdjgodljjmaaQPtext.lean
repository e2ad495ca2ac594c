/-
  The contracts of page.Text and page.SetText.
-/
import Derived.Test.YteobdjgodljjmaaQPset
import Derived.Laws.IdiomStrings
import Derived.Laws.IdiomCopy
namespace Go.Proofs.Yteobdjgodljjmaa.Pq
open Dk (zeros zeros_length)
open Go.RowKit

/-- bytes as a text -/
def strOf (l : List UInt8) : ByteArray := ⟨l.toArray⟩
set_option maxRecDepth 100000 in
theorem strOf_size (l : List UInt8) : (strOf l).size = l.length := by simp [strOf, ByteArray.size]
set_option maxRecDepth 100000 in
theorem strOf_bytes (s : ByteArray) : strOf s.data.toList = s := by simp [strOf]

set_option maxRecDepth 100000 in
/-- bytes of a page as a text, wherever they stand -/
theorem run_text {w : World} {b : Nat} {p : List UInt8} (h : PageAt w b p) (a n : Nat) (hn : a + n ≤ 64) :
    ∃ S, (Instr.sliceAt 67 (.pointer (some ⟨b, 0, none⟩)) (some (.int .i64 (a : Int))) (some (.int .i64 ((a : Int) + (n : Int)))) none).run Try.prog w = .ok S w ∧
      (convert 46 9 S).run Try.prog w = .ok (.string (strOf ((p.drop a).take n))) w := by
  have hl : ((p.drop a).take n).length = n := by have := h.len; simp; omega
  have hs := run_sliceAt_array_lh (P := Try.prog) w 67 ⟨b, 0, none⟩ underP .i64 .i64 (a : Int) ((a : Int) + (n : Int)) (by omega) (by omega) (by rw [arrP]; omega)
  rw [elemP, run_size8, arrP, Result.andThen_ok] at hs
  unfold slicedAt at hs
  have e1 : (a : Int).toNat = a := Int.toNat_natCast a
  have e2 : ((a : Int) + (n : Int)).toNat - a = n := by omega
  rw [e1, e2] at hs
  refine ⟨_, hs, ?_⟩
  have := run_convert_bytes_back (P := Try.prog) w 46 9 5 (if 64 = a then ⟨b, 0, none⟩ else (⟨b, 0, none⟩ : Addr).add (a * 1)) (64 - a) ((p.drop a).take n) Try.underlying46 Try.underlying5 Try.underlying9 (fun j hj => by
    rw [if_neg (by omega), Addr.add_mid, Addr.add_mid, Nat.mul_one, Nat.zero_add, h.cell (a + j) (by omega), List.getElem_take, List.getElem_drop, List.getD_eq_getElem?_getD, List.getElem?_eq_getElem (by have := h.len; omega)]
    rfl)
  rw [hl] at this
  exact this

set_option maxRecDepth 100000 in
set_option maxHeartbeats 400000 in
theorem text_yes (p : List UInt8) (a n : Nat) (w : World) (hp : p.length = 64) (h : a + n ≤ 64) :
    Calls Try.prog 34 #[pageV p, .int .i64 (a : Int), .int .i64 (n : Int)] w fun e w' => e = .returned (.string (strOf ((p.drop a).take n))) ∧ Below w.heap.size w w' := by
  obtain ⟨S, hS, hc⟩ := run_text (pageAt_new w p 67 hp) a n h
  have HN : Hid (Pg.insB (a : Int) (n : Int) = true) := Lib.hid (Pg.ins_mk (by omega) (by omega) (by omega))
  generalize strOf ((p.drop a).take n) = s at hc ⊢
  clear hp
  unfold pageV
  go_enter Try.func34, Try.ntmps34
  go_wp2_with (go_at_call 42; refine (inside_yes _ _ _ (by omega) (by omega) HN.out).mono ?_; rintro e w' ⟨rfl, rfl⟩)
  go_ret
  exact ⟨rfl, (Below.refl _ _).alloc (Nat.le_refl _) _⟩
set_option maxRecDepth 100000 in
set_option maxHeartbeats 400000 in
theorem text_no (p : List UInt8) (a n : Int) (w : World) (h1 : -9223372036854775808 ≤ n) (h2 : n ≤ 9223372036854775807) (h : Pg.insB a n = false) :
    Calls Try.prog 34 #[pageV p, .int .i64 a, .int .i64 n] w fun e w' => e = .returned (.string (strOf [])) ∧ Below w.heap.size w w' := by
  have HN := Lib.hid h; clear h
  unfold pageV
  go_enter Try.func34, Try.ntmps34
  go_wp2_with (go_at_call 42; refine (inside_no _ _ _ h1 h2 HN.out).mono ?_; rintro e w' ⟨rfl, rfl⟩)
  go_ret
  exact ⟨rfl, (Below.refl _ _).alloc (Nat.le_refl _) _⟩
set_option maxRecDepth 100000 in
theorem text_any (p : List UInt8) (a n : Int) (w : World) (hp : p.length = 64) (h1 : -9223372036854775808 ≤ n) (h2 : n ≤ 9223372036854775807) :
    Calls Try.prog 34 #[pageV p, .int .i64 a, .int .i64 n] w fun e w' => e = .returned (.string (strOf (Pg.textN p a n))) ∧ Below w.heap.size w w' := by
  by_cases h : Pg.insB a n = true
  · obtain ⟨c1, c2, c3⟩ := Pg.ins_yes h
    obtain ⟨A, rfl⟩ := Int.eq_ofNat_of_zero_le c1
    obtain ⟨N, rfl⟩ := Int.eq_ofNat_of_zero_le c2
    have := text_yes p A N w hp (by omega)
    unfold Pg.textN
    rw [if_pos h]
    exact this
  · have := text_no p a n w h1 h2 (by simpa using h)
    unfold Pg.textN
    rw [if_neg h]
    exact this

/-! ### SetText -/
set_option maxRecDepth 100000 in
theorem PageAt.over {w : World} {b : Nat} {p : List UInt8} (h : PageAt w b p) (a : Nat) (s : List UInt8) (hs : a + s.length ≤ 64) : PageAt (w.setCells b a (byteVals s)) b (Pg.over p a s) where
  len := by rw [Pg.over_length _ _ _ (by rw [h.len]; exact hs), h.len]
  range := fun j v hv => by
    rw [Nat.zero_add]
    have hj : j < 64 := by
      have := (List.getElem?_eq_some_iff.1 hv).1
      rw [byteVals_length, Pg.over_length _ _ _ (by rw [h.len]; exact hs), h.len] at this
      exact this
    have hv' : (Pg.over p a s)[j]?.map (fun c => Value.int .u8 (c.toNat : Int)) = Option.some v := by rw [← hv]; unfold byteVals; rw [List.getElem?_map]
    rw [Pg.over_at _ _ _ _ (by rw [h.len]; exact hs)] at hv'
    by_cases h1 : a ≤ j ∧ j < a + s.length
    · rw [if_neg (by omega), if_pos h1.2] at hv'
      have hin := World.cell?_setCells_in b (byteVals s) a w (fun i hi => h.isSome (a + i) (by rw [byteVals_length] at hi; omega)) (j - a) (by rw [byteVals_length]; omega)
      rw [show a + (j - a) = j by omega] at hin
      rw [hin, ← hv', ← List.getElem?_eq_getElem]
      unfold byteVals
      rw [List.getElem?_map]
    · rw [World.cell?_setCells_out b (byteVals s) a w ⟨b, j, none⟩ (fun _ _ => by rw [byteVals_length]; show j < a ∨ a + s.length ≤ j; omega)]
      have hpj : p[j]?.map (fun c => Value.int .u8 (c.toNat : Int)) = Option.some v := by
        by_cases h2 : j < a
        · rw [if_pos h2] at hv'; exact hv'
        · rw [if_neg h2, if_neg (by omega)] at hv'; exact hv'
      have := h.range j v (by unfold byteVals; rw [List.getElem?_map]; exact hpj)
      rwa [Nat.zero_add] at this
  free := World.there_setCells h.free _ _ _

set_option maxRecDepth 100000 in
/-- a text is copied into a page, wherever it has room -/
theorem run_copy_text {w : World} {b : Nat} {p : List UInt8} (h : PageAt w b p) (a : Nat) (s : ByteArray) (hs : a + s.size ≤ 64) :
    ∃ S, (Instr.sliceAt 67 (.pointer (some ⟨b, 0, none⟩)) (some (.int .i64 (a : Int))) none none).run Try.prog w = .ok S w ∧
      (Builtin.copy_ #[46, 9] 3 #[S, .string s]).run Try.prog w = .ok (goInt s.size) (w.setCells b a (byteVals s.data.toList)) := by
  have hsl := run_sliceAt_array_l (P := Try.prog) w 67 ⟨b, 0, none⟩ underP .i64 (a : Int) (by omega) (by rw [arrP]; omega)
  rw [elemP, run_size8, arrP, Result.andThen_ok] at hsl
  unfold slicedAt at hsl
  have e1 : (a : Int).toNat = a := Int.toNat_natCast a
  rw [e1] at hsl
  refine ⟨_, hsl, ?_⟩
  have hmin : Nat.min s.size (64 - a) = s.size := Nat.min_eq_left (by omega)
  have hcells : (s.extract 0 s.size).data.map (fun b => Value.int .u8 (b.toNat : Int)) = (byteVals s.data.toList).toArray := by
    have : s.extract 0 s.size = s := by apply ByteArray.ext; simp
    rw [this]; unfold byteVals; rw [← Array.toList_map, Array.toArray_toList]
  have hst : (storeCells (if 64 = a then ⟨b, 0, none⟩ else (⟨b, 0, none⟩ : Addr).add (a * 1)) (byteVals s.data.toList)).run Try.prog w = .ok () (w.setCells b a (byteVals s.data.toList)) := by
    by_cases h64 : 64 = a
    · have hz : s.data.toList = [] := List.eq_nil_of_length_eq_zero (by have : s.size = s.data.toList.length := by simp
                                                                        omega)
      rw [hz]; rfl
    · rw [if_neg h64, Addr.add_mid, Nat.mul_one, Nat.zero_add]
      have hlen : (byteVals s.data.toList).length = s.size := by rw [byteVals_length]; simp
      exact run_storeCells_cells (P := Try.prog) b a (byteVals s.data.toList) 0 w (fun j hj => h.isSome (a + j) (by omega)) (fun j hj => h.frozen (a + j) (by omega)) (byteVals_one _)
  obtain ⟨i8, hi8⟩ := info8
  have hsz := run_size8 w
  unfold Builtin.copy_
  simp only [List.getElem?_toArray, List.getElem?_cons_zero, List.getElem?_cons_succ, Sem.run_bind, run_underlying Try.underlying46, Result.andThen_ok, Builtin.lenOf, Sem.run_pure, hmin, hsz, Builtin.firstCells, hcells, hst]

set_option maxRecDepth 100000 in
set_option maxHeartbeats 1000000 in
theorem setText_yes (p : List UInt8) (a : Nat) (s : ByteArray) (w : World) (hp : p.length = 64) (h : a + s.size ≤ 64) :
    Calls Try.prog 37 #[pageV p, .int .i64 (a : Int), .string s] w fun e w' => e = .returned (pageV (Pg.over p a s.data.toList)) ∧ Below w.heap.size w w' := by
  have hs := set_start w p hp
  rw [zeroCells_def] at hs
  have HS := Lib.hid hs
  obtain ⟨S, hS, hc⟩ := run_copy_text hs.1 a s h
  have HN : Hid (Pg.insB (a : Int) (s.size : Int) = true) := Lib.hid (Pg.ins_mk (by omega) (by omega) (by omega))
  have hlen : s.data.toList.length = s.size := by simp
  have HO := Lib.hid (HS.out.1.over a s.data.toList (by omega))
  have HZ := Lib.hid (HS.out.2.1.put_other w.heap.size a (byteVals s.data.toList) (by omega))
  have HB := Lib.hid (below_setCells w.heap.size (Nat.le_refl _) (byteVals s.data.toList) a _ HS.out.2.2)
  clear hp hlen hs HS
  unfold pageV
  go_enter Try.func37, Try.ntmps37
  go_wp2_with (first
    | (go_at_call 42; refine (inside_yes _ _ _ (by omega) (by omega) HN.out).mono ?_; rintro e w' ⟨rfl, rfl⟩)
    | (with_reducible refine wpList_load_page HO.out rfl (.tmp 3) rfl rfl ?_)
    | (with_reducible refine wpList_store_page HZ.out HO.out.len rfl (.tmp 6) (.tmp 15) rfl rfl rfl ?_))
  exact bodyPost_ret (results_page _ 6 rfl _ (HZ.out.put _ HO.out.len) rfl) rfl ⟨rfl, below_setCells _ (by omega) _ _ _ HB.out⟩
set_option maxRecDepth 100000 in
set_option maxHeartbeats 1000000 in
theorem setText_no (p : List UInt8) (a : Int) (s : ByteArray) (w : World) (hp : p.length = 64) (hm : s.size ≤ maxLen) (h : Pg.insB a s.size = false) :
    Calls Try.prog 37 #[pageV p, .int .i64 a, .string s] w fun e w' => e = .returned (pageV p) ∧ Below w.heap.size w w' := by
  unfold maxLen at hm
  have hs := set_start w p hp
  rw [zeroCells_def] at hs
  have HS := Lib.hid hs
  have HN := Lib.hid h
  have HL := Lib.hid hp
  clear hp hs h
  unfold pageV
  go_enter Try.func37, Try.ntmps37
  go_wp2_with (first
    | (go_at_call 42; refine (inside_no _ _ _ (by omega) (by omega) HN.out).mono ?_; rintro e w' ⟨rfl, rfl⟩)
    | (with_reducible refine wpList_load_page HS.out.1 rfl (.tmp 3) rfl rfl ?_)
    | (with_reducible refine wpList_store_page HS.out.2.1 HL.out rfl (.tmp 6) (.tmp 15) rfl rfl rfl ?_))
  exact bodyPost_ret (results_page _ 6 rfl _ (HS.out.2.1.put _ HL.out) rfl) rfl ⟨rfl, below_setCells _ (by omega) _ _ _ HS.out.2.2⟩
set_option maxRecDepth 100000 in
theorem setText_any (p : List UInt8) (a : Int) (s : ByteArray) (w : World) (hp : p.length = 64) (hm : s.size ≤ maxLen) :
    Calls Try.prog 37 #[pageV p, .int .i64 a, .string s] w fun e w' => e = .returned (pageV (Pg.setTextN p a s.data.toList)) ∧ Below w.heap.size w w' := by
  have hlen : (s.data.toList.length : Int) = (s.size : Int) := by simp
  by_cases h : Pg.insB a s.size = true
  · obtain ⟨c1, c2, c3⟩ := Pg.ins_yes h
    obtain ⟨A, rfl⟩ := Int.eq_ofNat_of_zero_le c1
    have := setText_yes p A s w hp (by omega)
    unfold Pg.setTextN
    rw [hlen, if_pos h]
    exact this
  · have := setText_no p a s w hp hm (by simpa using h)
    unfold Pg.setTextN
    rw [hlen, if_neg h]
    exact this
end Go.Proofs.Yteobdjgodljjmaa.Pq
