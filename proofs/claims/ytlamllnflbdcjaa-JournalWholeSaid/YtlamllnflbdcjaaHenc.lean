/-
  The contract of head.Encode.
-/
import Derived.Test.YtlamllnflbdcjaaHleaf
namespace Go.Proofs.Ytlamllnflbdcjaa
open Go.RowKit
open Dk (zeros zeros_length)
open Hd (Head rightB pageH)

/-- what stands in memory while a head's page is made: the head, the page that is handed back, the page so far -/
structure Enc (w0 : World) (h : Head) (C : Nat) (p : List UInt8) (W : World) : Prop where
  c0 : W.cell? ⟨w0.heap.size, 0, none⟩ = some (.int .i64 h.seq)
  c1 : W.cell? ⟨w0.heap.size, 1, none⟩ = some (.bool h.live)
  c2 : W.cell? ⟨w0.heap.size, 2, none⟩ = some (.int .i64 h.count)
  c3 : W.cell? ⟨w0.heap.size, 3, none⟩ = some (.int .u32 h.sum)
  res : PageAt W (w0.heap.size + 1) zeros
  cur : PageAt W C p
  far : w0.heap.size + 1 < C
  below : Below w0.heap.size w0 W
theorem Enc.call {w0 : World} {h : Head} {C : Nat} {p : List UInt8} {W W' : World} (k : Enc w0 h C p W) (hb : Below W.heap.size W W') : Enc w0 h C p W' := by
  have hlt := k.res.lt
  exact ⟨(hb.cell (p := ⟨w0.heap.size, 0, none⟩) (by show w0.heap.size < _; omega)).trans k.c0, (hb.cell (p := ⟨w0.heap.size, 1, none⟩) (by show w0.heap.size < _; omega)).trans k.c1,
    (hb.cell (p := ⟨w0.heap.size, 2, none⟩) (by show w0.heap.size < _; omega)).trans k.c2, (hb.cell (p := ⟨w0.heap.size, 3, none⟩) (by show w0.heap.size < _; omega)).trans k.c3,
    k.res.below hb hlt, k.cur.below hb k.cur.lt, k.far, k.below.trans (hb.mono k.below.size)⟩
theorem cell_setCells_far {W : World} (b : Nat) (a : Addr) (h : a.block ≠ b) : ∀ (vs : List Value) (o : Nat) (W : World), (W.setCells b o vs).cell? a = W.cell? a
  | [], _, _ => rfl
  | v :: r, o, W => by
    rw [World.setCells, cell_setCells_far (W := W) b a h r (o + 1)]
    exact World.cell?_setCell_other _ _ _ _ (fun e => h (by rw [← e]))
theorem Enc.store {w0 : World} {h : Head} {C : Nat} {p q : List UInt8} {W : World} (k : Enc w0 h C p W) (hq : q.length = 64) : Enc w0 h C q (W.setCells C 0 (byteVals q)) := by
  have hf := k.far
  exact ⟨(cell_setCells_far (W := W) C ⟨w0.heap.size, 0, none⟩ (by show w0.heap.size ≠ C; omega) _ _ _).trans k.c0, (cell_setCells_far (W := W) C ⟨w0.heap.size, 1, none⟩ (by show w0.heap.size ≠ C; omega) _ _ _).trans k.c1,
    (cell_setCells_far (W := W) C ⟨w0.heap.size, 2, none⟩ (by show w0.heap.size ≠ C; omega) _ _ _).trans k.c2, (cell_setCells_far (W := W) C ⟨w0.heap.size, 3, none⟩ (by show w0.heap.size ≠ C; omega) _ _ _).trans k.c3,
    k.res.put_other _ _ _ (by omega), k.cur.put _ hq, hf, below_setCells _ (by omega) _ _ _ k.below⟩

theorem enc_cells (w : World) (s : Int) (l : Bool) (c m : Int) {w1 : World} (hb : Below (w.heap.size + 2) ((w.alloc (.cells #[.int .i64 s, .bool l, .int .i64 c, .int .u32 m] 73)).alloc (.cells zeroCells 31)) w1) :
    w1.cell? ⟨w.heap.size, 0, none⟩ = some (.int .i64 s) ∧ w1.cell? ⟨w.heap.size, 1, none⟩ = some (.bool l) ∧ w1.cell? ⟨w.heap.size, 2, none⟩ = some (.int .i64 c) ∧ w1.cell? ⟨w.heap.size, 3, none⟩ = some (.int .u32 m) ∧
    PageAt w1 (w.heap.size + 1) zeros ∧ w.heap.size + 1 < w1.heap.size ∧ Below w.heap.size w w1 := by
  have hp : PageAt ((w.alloc (.cells #[.int .i64 s, .bool l, .int .i64 c, .int .u32 m] 73)).alloc (.cells zeroCells 31)) (w.heap.size + 1) zeros := by simpa using pageAt_zeros (w.alloc (.cells #[.int .i64 s, .bool l, .int .i64 c, .int .u32 m] 73)) 31
  refine ⟨?_, ?_, ?_, ?_, hp.below hb (by omega), ?_, ?_⟩
  · refine (hb.cell (p := ⟨w.heap.size, 0, none⟩) (by show w.heap.size < _; omega)).trans ?_
    simp [go_sem]
  · refine (hb.cell (p := ⟨w.heap.size, 1, none⟩) (by show w.heap.size < _; omega)).trans ?_
    simp [go_sem]
  · refine (hb.cell (p := ⟨w.heap.size, 2, none⟩) (by show w.heap.size < _; omega)).trans ?_
    simp [go_sem]
  · refine (hb.cell (p := ⟨w.heap.size, 3, none⟩) (by show w.heap.size < _; omega)).trans ?_
    simp [go_sem]
  · have := hb.size; simp at this; omega
  · exact (((Below.refl _ _).alloc (Nat.le_refl _) _).alloc (by simp) _).trans (hb.mono (by omega))

theorem results_encode (fn : Func) (hf : fn.results = #[.cell 2 31, .tmp 3]) {w : World} {b : Nat} {q : List UInt8} {v : Value} (tmps : Array Value) (h : PageAt w b q) (h2 : tmps.getD 2 undef = .pointer (some ⟨b, 0, none⟩)) (h3 : tmps.getD 3 undef = v) :
    (results fn tmps).run Try.prog w = .ok (.tuple #[pageV q, v]) w := by
  have hl := h.loads
  unfold results
  rw [hf]
  simp only [Array.mapM_eq_mapM_toList, List.mapM_cons, List.mapM_nil, h2, h3, asAddr, Sem.run_bind, Sem.run_pure, Result.andThen_ok, hl, Sem.run_map]
  rfl

set_option maxRecDepth 100000 in
set_option maxHeartbeats 1000000 in
theorem encode_no (h : Head) (w : World) (hr : rightB h = false) :
    Calls Try.prog 34 #[headV h] w fun e w' => e = .returned (.tuple #[pageV zeros, .int .i64 22]) ∧ Below w.heap.size w w' := by
  have HR := Lib.hid (fun (w : World) => right_no h w hr)
  obtain ⟨s, l, c, m⟩ := h
  clear hr
  unfold headV at HR ⊢
  go_enter Try.func34, Try.ntmps34
  go_wp2_with fail
  refine (HR.out _).mono ?_
  rintro e w1 ⟨rfl, hb⟩
  rw [← zeroCells_def] at hb
  obtain ⟨c0, c1, c2, c3, hp, hlt, hbel⟩ := enc_cells w s l c m (by simpa using hb)
  clear hb
  have HP := Lib.hid hp; clear hp
  go_wp2_with ((with_reducible refine wpList_store_page HP.out zeros_length rfl (.tmp 2) (.tmp 8) rfl ?_ ?_ ?_); (exact rfl); (exact rfl))
  exact bodyPost_ret (results_encode _ rfl _ (HP.out.put _ zeros_length) rfl rfl) rfl ⟨rfl, below_setCells _ (by omega) _ _ _ hbel⟩

set_option maxRecDepth 100000 in
set_option maxHeartbeats 4000000 in
theorem encode_yes (h : Head) (w : World) (hr : rightB h = true) (hm0 : 0 ≤ h.sum) (hm1 : h.sum < 4294967296) :
    Calls Try.prog 34 #[headV h] w fun e w' => e = .returned (.tuple #[pageV (pageH h), .int .i64 0]) ∧ Below w.heap.size w w' := by
  have HR := Lib.hid (fun (w : World) => right_yes h w hr)
  have HC := Lib.hid (set_chain h)
  clear hr
  generalize pageH h = Z at HC ⊢
  obtain ⟨s, l, c, m⟩ := h
  simp only at hm0 hm1 HC
  unfold headV at HR ⊢
  go_enter Try.func34, Try.ntmps34
  go_wp2_with fail
  refine (HR.out _).mono ?_
  rintro e w1 ⟨rfl, hb⟩
  rw [← zeroCells_def] at hb
  obtain ⟨c0, c1, c2, c3, hp, hlt, hbel⟩ := enc_cells w s l c m (by simpa using hb)
  clear hb
  have HP := Lib.hid hp; clear hp
  go_wp2_with fail
  rw [← zeroCells_def]
  refine (set_any zeros 0 4 s w1 zeros_length (by omega) (by omega)).mono ?_
  rintro e w2 ⟨rfl, hb2⟩
  have HL := Lib.hid (Pg.setN_length zeros 0 4 s zeros_length)
  generalize hp1 : Pg.setN zeros 0 4 s = p1 at HL HC ⊢
  clear hp1
  have HE0 : Hid (∀ W2, PageAt W2 w2.heap.size p1 → Below w2.heap.size w2 W2 → Enc w ⟨s, l, c, m⟩ w2.heap.size p1 W2) := Lib.hid (fun W2 hP hB => by
    have hbb := hb2.trans (hB.mono hb2.size)
    have hz := hb2.size
    exact ⟨(hbb.cell (p := ⟨w.heap.size, 0, none⟩) (by show w.heap.size < _; omega)).trans c0, (hbb.cell (p := ⟨w.heap.size, 1, none⟩) (by show w.heap.size < _; omega)).trans c1,
      (hbb.cell (p := ⟨w.heap.size, 2, none⟩) (by show w.heap.size < _; omega)).trans c2, (hbb.cell (p := ⟨w.heap.size, 3, none⟩) (by show w.heap.size < _; omega)).trans c3,
      HP.out.below hbb hlt, hP, by omega, hbel.trans (hbb.mono hbel.size)⟩)
  clear HP hb2 hbel c0 c1 c2 c3 hlt
  cases l
  all_goals
    go_wp2_with (first
      | ((with_reducible refine wpList_store_new rfl (.tmp 4) (.tmp 12) rfl rfl ?_ ?_ HL.out ?_); (exact rfl); (exact rfl); intro W2 hP hB2 hz2; have E1 := Lib.hid (HE0.out W2 hP hB2); clear HE0 hP hB2 hz2; generalize w2.heap.size = C at E1 ⊢; have d1 := E1.out.c1; have d2 := E1.out.c2)
      | ((with_reducible refine wpList_load_page E1.out.cur rfl (.tmp 4) rfl rfl ?_)))
  · simp only [Bool.false_eq_true, if_false] at HC
    clear d1 d2
    refine (set_any p1 5 2 c _ HL.out (by omega) (by omega)).mono ?_
    rintro e w5 ⟨rfl, hb5⟩
    have E3 := Lib.hid (E1.out.call hb5)
    have HM := Lib.hid (Pg.setN_length p1 5 2 c HL.out)
    generalize Pg.setN p1 5 2 c = p3 at HM HC ⊢
    clear hb5 E1
    go_wp2_with (first
      | ((with_reducible refine wpList_store_page E3.out.cur HM.out rfl (.tmp 4) (.tmp 20) rfl rfl rfl ?_); have E4 := Lib.hid (E3.out.store HM.out); clear E3; generalize w5.setCells C 0 (byteVals p3) = W5 at E4 ⊢; have d3 := E4.out.c3)
      | ((with_reducible refine wpList_load_page E4.out.cur rfl (.tmp 4) rfl rfl ?_)))
    clear d3
    refine (set_any p3 7 4 m _ HM.out (by omega) (by omega)).mono ?_
    rintro e w6 ⟨rfl, hb6⟩
    have E5 := Lib.hid (E4.out.call hb6)
    have HK := Lib.hid (Pg.setN_length p3 7 4 m HM.out)
    generalize Pg.setN p3 7 4 m = p4 at HK HC ⊢
    clear hb6 E4
    go_wp2_with (first
      | ((with_reducible refine wpList_store_page E5.out.cur HK.out rfl (.tmp 4) (.tmp 25) rfl rfl rfl ?_); have E6 := Lib.hid (E5.out.store HK.out); clear E5; generalize w6.setCells C 0 (byteVals p4) = W6 at E6 ⊢; have d0 := E6.out.c0)
      | ((with_reducible refine wpList_load_page E6.out.cur rfl (.tmp 4) rfl rfl ?_)))
    clear d0
    refine (set_any p4 60 4 s _ HK.out (by omega) (by omega)).mono ?_
    rintro e w7 ⟨rfl, hb7⟩
    have E7 := Lib.hid (E6.out.call hb7)
    have HJ := Lib.hid (Pg.setN_length p4 60 4 s HK.out)
    generalize Pg.setN p4 60 4 s = p5 at HJ HC ⊢
    clear hb7 E6
    go_wp2_with ((with_reducible refine wpList_store_page E7.out.res HJ.out rfl (.tmp 2) (.tmp 29) rfl rfl rfl ?_))
    exact bodyPost_ret (results_encode _ rfl _ (E7.out.res.put _ HJ.out) rfl rfl) rfl ⟨by rw [HC.out]; rfl, below_setCells _ (by omega) _ _ _ E7.out.below⟩
  · simp only [if_true] at HC
    clear d1 d2
    refine (set_any p1 4 1 1 _ HL.out (by omega) (by omega)).mono ?_
    rintro e w4 ⟨rfl, hb4⟩
    have E2 := Lib.hid (E1.out.call hb4)
    have HN := Lib.hid (Pg.setN_length p1 4 1 1 HL.out)
    generalize Pg.setN p1 4 1 1 = p2 at HN HC ⊢
    clear hb4 E1
    go_wp2_with (first
      | ((with_reducible refine wpList_store_page E2.out.cur HN.out rfl (.tmp 4) (.tmp 16) rfl rfl rfl ?_); have E9 := Lib.hid (E2.out.store HN.out); clear E2; generalize w4.setCells C 0 (byteVals p2) = W4 at E9 ⊢; have d1 := E9.out.c1; have d2 := E9.out.c2)
      | ((with_reducible refine wpList_load_page E9.out.cur rfl (.tmp 4) rfl rfl ?_)))
    clear d1 d2
    refine (set_any p2 5 2 c _ HN.out (by omega) (by omega)).mono ?_
    rintro e w5 ⟨rfl, hb5⟩
    have E3 := Lib.hid (E9.out.call hb5)
    have HM := Lib.hid (Pg.setN_length p2 5 2 c HN.out)
    generalize Pg.setN p2 5 2 c = p3 at HM HC ⊢
    clear hb5 E9
    go_wp2_with (first
      | ((with_reducible refine wpList_store_page E3.out.cur HM.out rfl (.tmp 4) (.tmp 20) rfl rfl rfl ?_); have E4 := Lib.hid (E3.out.store HM.out); clear E3; generalize w5.setCells C 0 (byteVals p3) = W5 at E4 ⊢; have d3 := E4.out.c3)
      | ((with_reducible refine wpList_load_page E4.out.cur rfl (.tmp 4) rfl rfl ?_)))
    clear d3
    refine (set_any p3 7 4 m _ HM.out (by omega) (by omega)).mono ?_
    rintro e w6 ⟨rfl, hb6⟩
    have E5 := Lib.hid (E4.out.call hb6)
    have HK := Lib.hid (Pg.setN_length p3 7 4 m HM.out)
    generalize Pg.setN p3 7 4 m = p4 at HK HC ⊢
    clear hb6 E4
    go_wp2_with (first
      | ((with_reducible refine wpList_store_page E5.out.cur HK.out rfl (.tmp 4) (.tmp 25) rfl rfl rfl ?_); have E6 := Lib.hid (E5.out.store HK.out); clear E5; generalize w6.setCells C 0 (byteVals p4) = W6 at E6 ⊢; have d0 := E6.out.c0)
      | ((with_reducible refine wpList_load_page E6.out.cur rfl (.tmp 4) rfl rfl ?_)))
    clear d0
    refine (set_any p4 60 4 s _ HK.out (by omega) (by omega)).mono ?_
    rintro e w7 ⟨rfl, hb7⟩
    have E7 := Lib.hid (E6.out.call hb7)
    have HJ := Lib.hid (Pg.setN_length p4 60 4 s HK.out)
    generalize Pg.setN p4 60 4 s = p5 at HJ HC ⊢
    clear hb7 E6
    go_wp2_with ((with_reducible refine wpList_store_page E7.out.res HJ.out rfl (.tmp 2) (.tmp 29) rfl rfl rfl ?_))
    exact bodyPost_ret (results_encode _ rfl _ (E7.out.res.put _ HJ.out) rfl rfl) rfl ⟨by rw [HC.out]; rfl, below_setCells _ (by omega) _ _ _ E7.out.below⟩
end Go.Proofs.Ytlamllnflbdcjaa
