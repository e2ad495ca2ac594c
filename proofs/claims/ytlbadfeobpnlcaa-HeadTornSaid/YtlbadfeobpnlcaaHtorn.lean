/-
  Proved: HeadTorn returns true for every two heads and every place: of two heads with unlike Seqs, a page that begins as one's, and goes on as the other's, is one's page, the other's, or isn't whole.
  Conditions: none beside the statement's own.
-/
import Derived.Test.YtlbadfeobpnlcaaHopen
import Derived.Laws.IdiomCopy
import Derived.IntWalk
import Derived.Lib.SlBuf
import Derived.StillTailTactics
namespace Go.Proofs.Ytlbadfeobpnlcaa.headTorn
open Go.ChangeShapes Go.WideShapes Go.ChangeAt Go.RowKit
open Hd (Head rightB pageH)

/-- what stands in memory: the two heads -/
structure Two (w0 : World) (a b : Head) (W : World) : Prop where
  one : HeadAt W w0.heap.size a
  other : HeadAt W (w0.heap.size + 1) b
  below : Below w0.heap.size w0 W
theorem Two.call {w0 : World} {a b : Head} {W W' : World} (k : Two w0 a b W) (hb : Below W.heap.size W W') : Two w0 a b W' :=
  ⟨k.one.below hb k.one.lt, k.other.below hb k.other.lt, k.below.trans (hb.mono k.below.size)⟩
theorem two_start (w : World) (a b : Head) : Two w a b ((w.alloc (.cells (headVals a).toArray 24)).alloc (.cells (headVals b).toArray 24)) where
  one := (headAt_new w a _).alloc _
  other := by
    have := headAt_new (w.alloc (.cells (headVals a).toArray 24)) b 24
    have e : (w.alloc (.cells (headVals a).toArray 24)).heap.size = w.heap.size + 1 := by simp
    rw [e] at this
    exact this
  below := ((Below.refl _ _).alloc (Nat.le_refl _) _).alloc (by simp) _
def encP (h : Head) : List UInt8 := if rightB h = true then pageH h else zeros
def encE (h : Head) : Int := if rightB h = true then 0 else 22
theorem encP_length (h : Head) : (encP h).length = 64 := by
  unfold encP
  split
  · exact Hd.pageH_length h
  · exact zeros_length
theorem encode_any (h : Head) (w : World) (h0 : 0 ≤ h.sum) (h1 : h.sum < 4294967296) :
    Calls Try.prog 8 #[headV h] w fun e w' => e = .returned (.tuple #[pageV (encP h), .int .i64 (encE h)]) ∧ Below w.heap.size w w' := by
  unfold encP encE
  by_cases hr : rightB h = true
  · rw [if_pos hr, if_pos hr]; exact encode_yes h w hr h0 h1
  · rw [if_neg hr, if_neg hr]; exact encode_no h w (by simpa using hr)
theorem PageAt.block {w w' : World} {b : Nat} {p : List UInt8} (h : PageAt w b p) (hh : w'.heap = w.heap) : PageAt w' b p where
  len := h.len
  range := fun j v hv => by
    have := h.range j v hv
    unfold World.cell? at this ⊢
    rw [hh]; exact this
  free := fun j hj => by
    have := h.free j hj
    unfold World.cell? World.frozen? at this ⊢
    rw [hh]; exact this
theorem info8s : (Try.prog.info? 5).map (·.size) = some 1 := by kernel_rfl
/-- a beginning of a page is laid over -/
theorem PageAt.start {w : World} {b : Nat} {p : List UInt8} (h : PageAt w b p) (q : List UInt8) (hq : q.length ≤ 64) : PageAt (w.setCells b 0 (byteVals q)) b (q ++ p.drop q.length) where
  len := by rw [List.length_append, List.length_drop, h.len]; omega
  range := fun j v hv => by
    rw [Nat.zero_add]
    unfold byteVals at hv
    rw [List.getElem?_map, List.getElem?_append] at hv
    by_cases hj : j < q.length
    · rw [if_pos hj] at hv
      have := World.rangeAt_setCells_same w b 0 (byteVals q) (by rw [byteVals_length]; exact fun i hi => h.free i (by omega))
      have := this j v (by unfold byteVals; rw [List.getElem?_map]; exact hv)
      rwa [Nat.zero_add] at this
    · rw [if_neg hj, List.getElem?_drop, show q.length + (j - q.length) = j by omega] at hv
      rw [World.cell?_setCells_out b (byteVals q) 0 w ⟨b, j, none⟩ (fun _ _ => by rw [byteVals_length]; show j < 0 ∨ 0 + q.length ≤ j; omega)]
      have := h.range j v (by unfold byteVals; rw [List.getElem?_map]; exact hv)
      rwa [Nat.zero_add] at this
  free := World.there_setCells h.free _ _ _
theorem run_slice_page_to (w : World) (b k : Nat) (h : k ≤ 64) :
    (Instr.sliceAt 28 (.pointer (some ⟨b, 0, none⟩)) none (some (.int .i64 (k : Int))) none).run Try.prog w = .ok (.slice (some ⟨b, 0, none⟩) k 64) w := by
  rw [run_sliceAt_array_h w _ _ underP .i64 (k : Int) (by omega) (by rw [arrP]; omega), elemP, run_size8, arrP, Result.andThen_ok]
  unfold slicedAt
  rw [if_neg (by omega), Nat.zero_mul, Addr.add_mid]
  simp

set_option maxHeartbeats 4000000 in
theorem walk_no (a b : Head) (n : Int) (w : World) (ha0 : 0 ≤ a.sum) (ha1 : a.sum < 4294967296) (hb0 : 0 ≤ b.sum) (hb1 : b.sum < 4294967296)
    (h : rightB a = false ∨ (rightB a = true ∧ rightB b = false) ∨ (rightB a = true ∧ rightB b = true ∧ a.seq = b.seq) ∨ (rightB a = true ∧ rightB b = true ∧ a.seq ≠ b.seq ∧ n < 0) ∨ (rightB a = true ∧ rightB b = true ∧ a.seq ≠ b.seq ∧ 0 ≤ n ∧ 64 < n)) :
    Calls Try.prog 5 #[headV a, headV b, .int .i64 n] w fun e w' => e = .returned (.bool true) ∧ Below w.heap.size w w' := by
  have HEa := Lib.hid (fun (w : World) => encode_any a w ha0 ha1)
  have HEb := Lib.hid (fun (w : World) => encode_any b w hb0 hb1)
  have HLa := Lib.hid (encP_length a)
  have HLb := Lib.hid (encP_length b)
  have hca : (rightB a = false ∧ encE a = 22) ∨ (rightB a = true ∧ encE a = 0) := by unfold encE; cases rightB a <;> simp
  have hcb : (rightB b = false ∧ encE b = 22) ∨ (rightB b = true ∧ encE b = 0) := by unfold encE; cases rightB b <;> simp
  have hk : (encE a = 22) ∨ (encE a = 0 ∧ encE b = 22) ∨ (encE a = 0 ∧ encE b = 0 ∧ (a.seq == b.seq) = true) ∨ (encE a = 0 ∧ encE b = 0 ∧ (a.seq == b.seq) = false ∧ n < 0) ∨ (encE a = 0 ∧ encE b = 0 ∧ (a.seq == b.seq) = false ∧ 0 ≤ n ∧ 64 < n) := by
    rcases hca with ⟨ra, ea⟩ | ⟨ra, ea⟩ <;> rcases hcb with ⟨rb, eb⟩ | ⟨rb, eb⟩ <;> simp [ra, rb, ea, eb] at h ⊢ <;> omega
  clear h hca hcb ha0 ha1 hb0 hb1
  generalize encP a = pa at HEa HLa
  generalize encP b = pb at HEb HLb
  generalize encE a = ea at HEa hk
  generalize encE b = eb at HEb hk
  have hs := two_start w a b
  have HAB := Lib.hid hs; clear hs
  go_enter Try.func5, Try.ntmps5
  unfold headV headVals at *
  go_wp2_with fail
  refine (awake_any _).mono ?_
  rintro e w1 ⟨rfl, hb1⟩
  have S1 := Lib.hid (HAB.out.call (by simpa using hb1))
  clear HAB hb1
  go_wp2_with (with_reducible refine wpList_load_head headT S1.out.one rfl (.tmp 3) rfl rfl ?_)
  refine (HEa.out _).mono ?_
  rintro e w2 ⟨rfl, hb2⟩
  have S2 := Lib.hid (S1.out.call hb2)
  clear S1 hb2
  go_wp2_with (first
    | ((with_reducible refine wpList_store_new rfl (.tmp 7) (.tmp 19) rfl rfl ?_ ?_ HLa.out ?_); (exact rfl); (exact rfl); intro W3 hP hB3 hz3; have S3 := Lib.hid (S2.out.call hB3); have A3 := Lib.hid hP; clear S2 hP hB3 hz3; generalize w2.heap.size = C at A3 ⊢)
    | ((with_reducible refine wpList_load_head headT S3.out.other rfl (.tmp 4) rfl rfl ?_)))
  refine (HEb.out _).mono ?_
  rintro e w4 ⟨rfl, hb4⟩
  have S4 := Lib.hid (S3.out.call hb4)
  have A4 := Lib.hid (A3.out.below hb4 A3.out.lt)
  clear S3 A3 hb4
  rcases hk with rfl | ⟨rfl, rfl⟩ | ⟨rfl, rfl, h3⟩ | ⟨rfl, rfl, h3, h4⟩ | ⟨rfl, rfl, h3, h4, h5⟩
  all_goals
    go_wp2_with (first
      | ((with_reducible refine wpList_store_new rfl (.tmp 9) (.tmp 24) rfl rfl ?_ ?_ HLb.out ?_); (exact rfl); (exact rfl); intro W5 hP hB5 hz5; have S5 := Lib.hid (S4.out.call hB5); have A5 := Lib.hid (A4.out.below hB5 A4.out.lt); have B5 := Lib.hid hP; have hne5 : C < w4.heap.size := A4.out.lt; clear S4 A4 hP hB5 hz5; generalize w4.heap.size = D at B5 hne5 ⊢; have d0 := S5.out.one.c0; have d1 := S5.out.other.c0))
    go_ret
    exact ⟨rfl, S5.out.below⟩

set_option maxHeartbeats 4000000 in
theorem walk_yes (a b : Head) (k : Nat) (w : World) (ha0 : 0 ≤ a.sum) (ha1 : a.sum < 4294967296) (hb0 : 0 ≤ b.sum) (hb1 : b.sum < 4294967296) (ra : rightB a = true) (rb : rightB b = true) (hne : a.seq ≠ b.seq) (hk : k ≤ 64) :
    Calls Try.prog 5 #[headV a, headV b, .int .i64 (k : Int)] w fun e w' => e = .returned (.bool true) ∧ Below w.heap.size w w' := by
  have HEa := Lib.hid (fun (w : World) => encode_yes a w ra ha0 ha1)
  have HEb := Lib.hid (fun (w : World) => encode_yes b w rb hb0 hb1)
  have HLa := Lib.hid (Hd.pageH_length a)
  have HLb := Lib.hid (Hd.pageH_length b)
  have HRa := Lib.hid (Hd.read_page a ra ha0 ha1)
  have HRb := Lib.hid (Hd.read_page b rb hb0 hb1)
  have HT := Lib.hid (Hd.torn a b ra rb hne k hk)
  have h3 : (a.seq == b.seq) = false := by simpa using hne
  have h4 : ¬ (k : Int) < 0 := by omega
  have h5 : ¬ (64 : Int) < (k : Int) := by omega
  clear ha0 ha1 hb0 hb1 ra rb hne
  generalize pageH a = pa at HEa HLa HRa HT
  generalize pageH b = pb at HEb HLb HRb HT
  have hs := two_start w a b
  have HAB := Lib.hid hs; clear hs
  go_enter Try.func5, Try.ntmps5
  unfold headV headVals at *
  go_wp2_with fail
  refine (awake_any _).mono ?_
  rintro e w1 ⟨rfl, hb1⟩
  have S1 := Lib.hid (HAB.out.call (by simpa using hb1))
  clear HAB hb1
  go_wp2_with (with_reducible refine wpList_load_head headT S1.out.one rfl (.tmp 3) rfl rfl ?_)
  refine (HEa.out _).mono ?_
  rintro e w2 ⟨rfl, hb2⟩
  have S2 := Lib.hid (S1.out.call hb2)
  clear S1 hb2
  go_wp2_with (first
    | ((with_reducible refine wpList_store_new rfl (.tmp 7) (.tmp 19) rfl rfl ?_ ?_ HLa.out ?_); (exact rfl); (exact rfl); intro W3 hP hB3 hz3; have S3 := Lib.hid (S2.out.call hB3); have A3 := Lib.hid hP; clear S2 hP hB3 hz3; generalize w2.heap.size = C at A3 ⊢)
    | ((with_reducible refine wpList_load_head headT S3.out.other rfl (.tmp 4) rfl rfl ?_)))
  refine (HEb.out _).mono ?_
  rintro e w4 ⟨rfl, hb4⟩
  have S4 := Lib.hid (S3.out.call hb4)
  have A4 := Lib.hid (A3.out.below hb4 A3.out.lt)
  clear S3 A3 hb4
  go_wp2_with (first
    | ((with_reducible refine wpList_store_new rfl (.tmp 9) (.tmp 24) rfl rfl ?_ ?_ HLb.out ?_); (exact rfl); (exact rfl); intro W5 hP hB5 hz5; have S5 := Lib.hid (S4.out.call hB5); have A5 := Lib.hid (A4.out.below hB5 A4.out.lt); have B5 := Lib.hid hP; have hne5 : C < w4.heap.size := A4.out.lt; clear S4 A4 hP hB5 hz5; generalize w4.heap.size = D at B5 hne5 ⊢; have d0 := S5.out.one.c0; have d1 := S5.out.other.c0)
    | ((with_reducible refine wpList_load_page B5.out rfl (.tmp 9) rfl rfl ?_))
    | ((with_reducible refine wpList_store_new rfl (.tmp 11) (.tmp 47) rfl rfl ?_ ?_ HLb.out ?_); (exact rfl); (exact rfl); intro W6 hP hB6 hz6; have S6 := Lib.hid (S5.out.call hB6); have A6 := Lib.hid (A5.out.below hB6 A5.out.lt); have B6 := Lib.hid (B5.out.below hB6 B5.out.lt); have hne6 : D < W5.heap.size := B5.out.lt; have hX : w.heap.size + 1 < W5.heap.size := S5.out.other.lt; have X6 := Lib.hid hP; clear S5 A5 B5 hP hB6 hz6 d0 d1; generalize W5.heap.size = X at X6 hne6 hX ⊢))
  clear h3 h4 h5
  have hql : (pa.take k).length = k := by rw [List.length_take, HLa.out]; omega
  have HXE : Hid (pa.take k ++ pb.drop (pa.take k).length = pa.take k ++ pb.drop k) := Lib.hid (by rw [hql])
  have HQ := Lib.hid hql
  have HC := Lib.hid (fun (W : World) (ty : TypeId) (hW1 : PageAt W X pb) (hW2 : PageAt W C pa) => run_copy_cells (P := Try.prog) W 43 43 ty 5 X 0 k 64 ⟨C, 0, none⟩ k 64 (byteVals (pa.take k)) Try.underlying43 info8s
    (by rw [byteVals_length, hql]; exact (Nat.min_self k).symm)
    (fun j v hv => by
      rw [Addr.add_mid]
      unfold byteVals at hv
      rw [List.getElem?_map, List.getElem?_take] at hv
      by_cases hj : j < k
      · rw [if_pos hj] at hv
        exact hW2.range j v (by unfold byteVals; rw [List.getElem?_map]; exact hv)
      · rw [if_neg hj] at hv; cases hv)
    (fun j hj => (hW1.free j (by rw [byteVals_length, hql] at hj; omega)).1) (fun j hj => (hW1.free j (by rw [byteVals_length, hql] at hj; omega)).2) (byteVals_one _))
  have hsl := fun (W : World) => run_slice_page_to W X k hk
  have hsl2 := fun (W : World) => run_slice_page_to W C k hk
  clear hql
  refine wp_region_still_tail 4 (by kernel_rfl) (by kernel_rfl) ?_
  simp only [List.take_succ_cons, List.take_zero, List.drop_succ_cons, List.drop_zero]
  change wpStill _ _ W6.drew (fun a' => wpList _ _ _ _ a' W6.drew) _ _
  still_step
  still_step
  still_step
  still_step
  refine wpStill_nil ?_
  refine Lib.wpList_copy_run _ rfl (.tmp 49) (.tmp 51) 43 43 rfl _ _ rfl rfl (HC.out W6.drew _ (PageAt.block X6.out rfl) (PageAt.block A6.out rfl)) ?_
  have X7 := Lib.hid (PageAt.start (PageAt.block (w' := W6.drew) X6.out rfl) (pa.take k) (by rw [HQ.out]; exact hk))
  have A7 := Lib.hid ((PageAt.block (w' := W6.drew) A6.out rfl).put_other X 0 (byteVals (pa.take k)) (by omega))
  have B7 := Lib.hid ((PageAt.block (w' := W6.drew) B6.out rfl).put_other X 0 (byteVals (pa.take k)) (by omega))
  have S7 : Hid (Two w a b (W6.drew.setCells X 0 (byteVals (pa.take k)))) := Lib.hid ⟨S6.out.one.drew.put_other _ _ _ (by omega), S6.out.other.drew.put_other _ _ _ (by omega), below_setCells _ (by omega) _ _ _ S6.out.below.drew⟩
  clear S6 A6 B6 X6
  generalize W6.drew.setCells X 0 (byteVals (pa.take k)) = W7 at S7 A7 B7 X7 ⊢
  rw [HXE.out] at X7
  have HXL := Lib.hid X7.out.len
  generalize pa.take k ++ pb.drop k = x at X7 HT HXL
  clear HXE HQ HC hsl hsl2
  go_wp2_with (with_reducible refine wpList_load_page X7.out rfl (.tmp 11) rfl rfl ?_)
  have hcase : Hid (Hd.wholeB x = false) ∨ Hid (Hd.wholeB x = true ∧ x = pa ∧ Hd.readH x = a) ∨ Hid (Hd.wholeB x = true ∧ x ≠ pa ∧ x = pb ∧ Hd.readH x = b) := by
    cases hw : Hd.wholeB x with
    | false => exact Or.inl (Lib.hid rfl)
    | true =>
      right
      by_cases he : x = pa
      · exact Or.inl (Lib.hid ⟨rfl, he, by rw [he]; exact HRa.out⟩)
      · rcases HT.out hw with h1 | h1
        · exact absurd h1 he
        · exact Or.inr (Lib.hid ⟨rfl, he, h1, by rw [h1]; exact HRb.out⟩)
  clear HT HRa HRb
  rcases hcase with HW | HW | HW
  · have HD := Lib.hid (fun (w : World) => decode_no x w HXL.out HW.out)
    have E1 : ∀ (x y : Operand) (w : World), (eqGuard .eql 24 x y (headV Hd.zero) (.agg #[.int .i64 0, .bool false, .int .i64 0, .int .u32 0])).run Try.prog w = .ok () w := fun x y w => run_eqGuard_head w x y Hd.zero Hd.zero
    have E2 : ∀ (w : World), (binOp .eql 24 (headV Hd.zero) (.agg #[.int .i64 0, .bool false, .int .i64 0, .int .u32 0])).run Try.prog w = .ok (.bool true) w := fun w => by
      have := run_eql_head w Hd.zero Hd.zero
      rw [decide_eq_true rfl] at this
      exact this
    clear HW
    refine (HD.out _).mono ?_
    rintro e w8 ⟨rfl, hb8⟩
    have S8 := Lib.hid (S7.out.call hb8)
    have A8 := Lib.hid (A7.out.below hb8 A7.out.lt)
    have B8 := Lib.hid (B7.out.below hb8 B7.out.lt)
    have X8 := Lib.hid (X7.out.below hb8 X7.out.lt)
    clear S7 A7 B7 X7 hb8
    go_wp2_with (first
      | ((with_reducible refine wpList_store_newhead headT (h := Hd.zero) rfl (.tmp 12) (.tmp 56) rfl rfl ?_ ?_ ?_); (exact rfl); (exact rfl); intro W9 hH hB9 hz9; have S9 := Lib.hid (S8.out.call hB9); have A9 := Lib.hid (A8.out.below hB9 A8.out.lt); have B9 := Lib.hid (B8.out.below hB9 B8.out.lt); have X9 := Lib.hid (X8.out.below hB9 X8.out.lt); have G9 := Lib.hid hH; clear S8 A8 B8 X8 hH hB9 hz9)
      | ((with_reducible refine wpList_loadg_head headT G9.out (.tmp 12) rfl rfl ?_ ?_); (exact rfl)))
    go_ret
    exact ⟨rfl, S9.out.below⟩
  · have HD := Lib.hid (fun (w : World) => decode_yes x w HXL.out HW.out.1)
    have E1 := fun (y z : Operand) (w : World) => run_eqGuard_page w y z x pa
    have E2 : ∀ (w : World), (binOp .eql 28 (pageV x) (pageV pa)).run Try.prog w = .ok (.bool true) w := fun w => by
      rw [run_eql_page w x pa HXL.out HLa.out, decide_eq_true HW.out.2.1]
    have E3 := fun (y z : Operand) (w : World) => run_eqGuard_head w y z (Hd.readH x) a
    have E4 : ∀ (w : World), (binOp .eql 24 (headV (Hd.readH x)) (headV a)).run Try.prog w = .ok (.bool true) w := fun w => by
      rw [run_eql_head w (Hd.readH x) a, decide_eq_true HW.out.2.2]
    clear HW
    generalize Hd.readH x = g at HD E3 E4
    refine (HD.out _).mono ?_
    rintro e w8 ⟨rfl, hb8⟩
    have S8 := Lib.hid (S7.out.call hb8)
    have A8 := Lib.hid (A7.out.below hb8 A7.out.lt)
    have B8 := Lib.hid (B7.out.below hb8 B7.out.lt)
    have X8 := Lib.hid (X7.out.below hb8 X7.out.lt)
    clear S7 A7 B7 X7 hb8
    go_wp2_with (first
      | ((with_reducible refine wpList_store_newhead headT (h := g) rfl (.tmp 12) (.tmp 56) rfl rfl ?_ ?_ ?_); (exact rfl); (exact rfl); intro W9 hH hB9 hz9; have S9 := Lib.hid (S8.out.call hB9); have A9 := Lib.hid (A8.out.below hB9 A8.out.lt); have B9 := Lib.hid (B8.out.below hB9 B8.out.lt); have X9 := Lib.hid (X8.out.below hB9 X8.out.lt); have G9 := Lib.hid hH; clear S8 A8 B8 X8 hH hB9 hz9)
      | ((with_reducible refine wpList_loadg_head headT G9.out (.tmp 12) rfl rfl ?_ ?_); (exact rfl))
      | ((with_reducible refine wpList_loadg_head headT S9.out.one (.tmp 3) rfl rfl ?_ ?_); (exact rfl))
      | ((with_reducible refine wpList_load_guarded X9.out (.tmp 11) rfl rfl ?_ ?_); (exact rfl))
      | ((with_reducible refine wpList_load_guarded A9.out (.tmp 7) rfl rfl ?_ ?_); (exact rfl)))
    go_ret
    exact ⟨rfl, S9.out.below⟩
  · have HD := Lib.hid (fun (w : World) => decode_yes x w HXL.out HW.out.1)
    have E0 := fun (y z : Operand) (w : World) => run_eqGuard_page w y z x pa
    have E5 : ∀ (w : World), (binOp .eql 28 (pageV x) (pageV pa)).run Try.prog w = .ok (.bool false) w := fun w => by
      rw [run_eql_page w x pa HXL.out HLa.out, decide_eq_false HW.out.2.1]
    have E1 := fun (y z : Operand) (w : World) => run_eqGuard_page w y z x pb
    have E2 : ∀ (w : World), (binOp .eql 28 (pageV x) (pageV pb)).run Try.prog w = .ok (.bool true) w := fun w => by
      rw [run_eql_page w x pb HXL.out HLb.out, decide_eq_true HW.out.2.2.1]
    have E3 := fun (y z : Operand) (w : World) => run_eqGuard_head w y z (Hd.readH x) b
    have E4 : ∀ (w : World), (binOp .eql 24 (headV (Hd.readH x)) (headV b)).run Try.prog w = .ok (.bool true) w := fun w => by
      rw [run_eql_head w (Hd.readH x) b, decide_eq_true HW.out.2.2.2]
    clear HW
    generalize Hd.readH x = g at HD E3 E4
    refine (HD.out _).mono ?_
    rintro e w8 ⟨rfl, hb8⟩
    have S8 := Lib.hid (S7.out.call hb8)
    have A8 := Lib.hid (A7.out.below hb8 A7.out.lt)
    have B8 := Lib.hid (B7.out.below hb8 B7.out.lt)
    have X8 := Lib.hid (X7.out.below hb8 X7.out.lt)
    clear S7 A7 B7 X7 hb8
    go_wp2_with (first
      | ((with_reducible refine wpList_store_newhead headT (h := g) rfl (.tmp 12) (.tmp 56) rfl rfl ?_ ?_ ?_); (exact rfl); (exact rfl); intro W9 hH hB9 hz9; have S9 := Lib.hid (S8.out.call hB9); have A9 := Lib.hid (A8.out.below hB9 A8.out.lt); have B9 := Lib.hid (B8.out.below hB9 B8.out.lt); have X9 := Lib.hid (X8.out.below hB9 X8.out.lt); have G9 := Lib.hid hH; clear S8 A8 B8 X8 hH hB9 hz9)
      | ((with_reducible refine wpList_loadg_head headT G9.out (.tmp 12) rfl rfl ?_ ?_); (exact rfl))
      | ((with_reducible refine wpList_loadg_head headT S9.out.other (.tmp 4) rfl rfl ?_ ?_); (exact rfl))
      | ((with_reducible refine wpList_load_guarded X9.out (.tmp 11) rfl rfl ?_ ?_); (exact rfl))
      | ((with_reducible refine wpList_load_guarded A9.out (.tmp 7) rfl rfl ?_ ?_); (exact rfl))
      | ((with_reducible refine wpList_load_guarded B9.out (.tmp 9) rfl rfl ?_ ?_); (exact rfl)))
    go_ret
    exact ⟨rfl, S9.out.below⟩

theorem walk (a b : Head) (n : Int) (w : World) (ha0 : 0 ≤ a.sum) (ha1 : a.sum < 4294967296) (hb0 : 0 ≤ b.sum) (hb1 : b.sum < 4294967296) :
    Calls Try.prog 5 #[headV a, headV b, .int .i64 n] w fun e w' => e = .returned (.bool true) ∧ Below w.heap.size w w' := by
  by_cases h : rightB a = true ∧ rightB b = true ∧ a.seq ≠ b.seq ∧ 0 ≤ n ∧ n ≤ 64
  · obtain ⟨h1, h2, h3, h4, h5⟩ := h
    obtain ⟨k, rfl⟩ := Int.eq_ofNat_of_zero_le h4
    exact walk_yes a b k w ha0 ha1 hb0 hb1 h1 h2 h3 (by omega)
  · refine walk_no a b n w ha0 ha1 hb0 hb1 ?_
    cases h1 : rightB a with
    | false => exact Or.inl rfl
    | true =>
      cases h2 : rightB b with
      | false => exact Or.inr (Or.inl ⟨rfl, rfl⟩)
      | true =>
        by_cases h3 : a.seq = b.seq
        · exact Or.inr (Or.inr (Or.inl ⟨rfl, rfl, h3⟩))
        · by_cases h4 : n < 0
          · exact Or.inr (Or.inr (Or.inr (Or.inl ⟨rfl, rfl, h3, h4⟩)))
          · refine Or.inr (Or.inr (Or.inr (Or.inr ⟨rfl, rfl, h3, by omega, ?_⟩)))
            have h6 : ¬ (0 ≤ n ∧ n ≤ 64) := fun h7 => h ⟨h1, h2, h3, h7⟩
            omega

set_option maxRecDepth 100000 in
theorem lifted (os : Os) (started : os.Started) (H : Type) (enc : TypeId × Value → H) :
    ReturnsInHanded {} Try.checked os 5 .any (Rows.headTornSpec.pre6 enc Try.prog Try.f5 Rows.headTornRow.domain false) (Rows.headTornSpec.post enc Try.prog Try.f5 false true false false) := by
  refine returnsInHanded_of_change (C := Try.checked) own started (by kernel_rfl) Try.func5
    (ChangeSpec.witness6 (enc := enc) (C := Try.checked) false ⟨#[], #[.agg #[.int .i64 0, .bool false, .int .i64 0, .int .u32 0], .agg #[.int .i64 0, .bool false, .int .i64 0, .int .u32 0], .int .i64 0], []⟩ 8 (by kernel_rfl) (by kernel_rfl) (by kernel_rfl) (by kernel_rfl)) ?_
  intro W base args ds gs before hval0 hW hcnd _
  have hval : ∀ (j : Nat) t v, Try.f5.params[j]? = some t → args[j]? = some v → Value.okWide Try.prog W .any base t v := hval0
  have hW' := hW
  obtain ⟨p, q, hA0, hV, rfl, hfz, hnd⟩ := hW
  have hA : DataW.TrodAll enc Try.prog W 0 (fun _ => true) true Try.f5.params.toList args.toList ds p := hA0
  rw [Try.params5] at hA hval
  obtain ⟨v0, vs0, d0, ds0, p0, q0, hargs, rfl, rfl, h0, r0⟩ := trodAll_cons hA
  obtain ⟨v1, vs1, d1, ds1, p1, q1, rfl, rfl, rfl, h1, r1⟩ := trodAll_cons r0
  obtain ⟨v2, vs2, d2, ds2, p2, q2, rfl, rfl, rfl, h2, r2⟩ := trodAll_cons r1
  obtain ⟨rfl, rfl, rfl⟩ := trodAll_nil r2
  obtain rfl : args = #[v0, v1, v2] := by cases args; simp_all
  obtain ⟨rfl, rfl⟩ := trodVars_none hV
  have k0 := h0
  have lt0 : ∀ x ∈ p0, x.block < W.heap.size := by obtain ⟨m, hm⟩ := k0; exact DataW.trod_lt m _ _ _ hm
  have k1 := h1
  have lt1 : ∀ x ∈ p1, x.block < W.heap.size := by obtain ⟨m, hm⟩ := k1; exact DataW.trod_lt m _ _ _ hm
  have k2 := h2
  have lt2 : ∀ x ∈ p2, x.block < W.heap.size := by obtain ⟨m, hm⟩ := k2; exact DataW.trod_lt m _ _ _ hm
  obtain ⟨x0, rfl, hl0, hh0⟩ := open_head (hval 0 24 v0 rfl rfl) h0
  obtain ⟨x1, rfl, hl1, hh1⟩ := open_head (hval 1 24 v1 rfl rfl) h1
  obtain ⟨x2, rfl, ed2, ep2, w2⟩ := open_int Try.underlying3 (hval 2 3 v2 rfl rfl) h2
  clear hA0 hval0
  refine (walk x0 x1 x2 W hl0 hh0 hl1 hh1).mono fun e W' ⟨he, bel⟩ => ?_
  subst he
  exact ⟨_, rfl, _, _, _, [], _, [], hW', trodAll_mk1 (shut_bool Try.underlying4 _), (trodAll_cons_mk (Below.trod laidOut (by kernel_rfl) (of_decide_eq_true (by kernel_rfl)) k0 bel lt0) (trodAll_cons_mk (Below.trod laidOut (by kernel_rfl) (of_decide_eq_true (by kernel_rfl)) k1 bel lt1) (trodAll_cons_mk (Below.trod laidOut (by kernel_rfl) (of_decide_eq_true (by kernel_rfl)) k2 bel lt2) trodAll_mk0))), rfl, bel.frame _, fun h => by cases h⟩

theorem over : Rows.headTornRow.holds Try.pinned (OpenSpec.ofChange Rows.headTornSpec) :=
  OpenClaim.holds_of_wide 5 Try.f5 rfl rfl rfl rfl rfl rfl rfl ⟨rfl, rfl, rfl, rfl, rfl⟩ rfl rfl rfl rfl rfl (by kernel_rfl) Try.func5 (by kernel_rfl)
    (of_decide_eq_true (by kernel_rfl)) (by unfold Func.isWrapper; first | (rw [if_pos (by decide +kernel)]; kernel_rfl) | (rw [if_neg (by decide +kernel)]; exact ⟨rfl, rfl⟩))
    (fun os started H enc _ => lifted os started H enc)

/-- THE STATEMENT -/
theorem proved : Rows.HeadTornSaid := over
#print axioms proved
end Go.Proofs.Ytlbadfeobpnlcaa.headTorn
