/-
  Proved: SlotPuts returns true for all pages, places and entries: an entry is put as the document says, or the page stays, and what is put is read.
  Conditions: none beside the statement's own.
-/
import Derived.Test.YtejedkdlehgnpaaNopen
namespace Go.Proofs.Ytejedkdlehgnpaa.slotPuts
open Go.ChangeShapes Go.WideShapes Go.ChangeAt Go.RowKit

theorem start (p : List UInt8) (n : Int) (s : ByteArray) (w : World) (hp : p.length = 64) : RowsS w [(w.heap.size + 1, entL n s), (w.heap.size, byteVals p)] ((w.alloc (.cells (byteVals p).toArray 32)).alloc (.cells #[.int .i64 n, .string s] 23)) := by
  have h0 : RowsS w [(w.heap.size, byteVals p)] (w.alloc (.cells (byteVals p).toArray 32)) := RowsS.add ⟨fun x hx => (by cases hx), Below.refl _ _⟩ ((Below.refl _ _).alloc (Nat.le_refl _) _) (rowAt_new w (byteVals p) _) (by rw [byteVals_length, hp]; decide)
  have h1 := RowsS.add h0 ((Below.refl _ _).alloc (Nat.le_refl _) (.cells (entL n s).toArray 23)) (rowAt_new (w.alloc (.cells (byteVals p).toArray 32)) (entL n s) _) (Nat.succ_pos 1)
  rw [World.size_alloc] at h1
  exact h1
theorem byteVals_pos {p : List UInt8} (hp : p.length = 64) : 0 < (byteVals p).length := by rw [byteVals_length, hp]; decide
set_option maxRecDepth 100000 in
set_option maxHeartbeats 4000000 in
theorem far (p : List UInt8) (i n : Int) (s : ByteArray) (w : World) (hp : p.length = 64) (hm : s.size ≤ maxLen) (h : 300 < s.size) :
    Calls Try.prog 4 #[pageV p, .int .i64 i, entV n s] w fun e w' => e = .returned (.bool true) ∧ Below w.heap.size w w' := by
  unfold maxLen at hm
  have S0 := Lib.hid (start p n s w hp)
  have HP := Lib.hid hp
  have hI : (300 : Int) < (s.size : Int) := by omega
  clear hp
  unfold pageV entV
  go_enter Try.func4, Try.ntmps4
  go_wp2_with fail
  refine (awake_any _).mono ?_
  rintro e w1 ⟨rfl, hb⟩
  have S := Lib.hid (S0.out.call hb)
  clear hb S0
  have hc := S.out.at0.cell 1 _ rfl
  go_wp2
  go_ret
  exact ⟨rfl, S.out.below⟩
set_option maxRecDepth 100000 in
set_option maxHeartbeats 4000000 in
theorem stays (p : List UInt8) (i n : Int) (s : ByteArray) (w : World) (hp : p.length = 64) (hm : s.size ≤ maxLen) (h : s.size ≤ 300) (hq : putF p i n s.data.toList = p) (hc3 : i < 0 ∨ (¬ i < 0 ∧ 3 < i) ∨ (¬ i < 0 ∧ ¬ 3 < i ∧ Nm.rightB n s.data.toList = false ∧ (n == 0 && s.toList == (⟨#[]⟩ : ByteArray).toList) = false)) :
    Calls Try.prog 4 #[pageV p, .int .i64 i, entV n s] w fun e w' => e = .returned (.bool true) ∧ Below w.heap.size w w' := by
  unfold maxLen at hm
  have S0 := Lib.hid (start p n s w hp)
  have HP := Lib.hid hp
  have hI : (s.size : Int) ≤ 300 := by omega
  have HT := Lib.hid (fun w => put_any p i n s w hp (by unfold maxLen; omega))
  rw [hq] at HT
  change Hid (∀ w, Calls Try.prog 13 #[pageV p, .int .i64 i, .agg (entL n s).toArray] w fun e w' => e = .returned (pageV p) ∧ Below w.heap.size w w') at HT
  have HR := Lib.hid (fun w => refRight_any n s w (by unfold maxLen; omega))
  change Hid (∀ w, Calls Try.prog 12 #[.agg (entL n s).toArray] w fun e w' => e = .returned (.bool (Nm.rightB n s.data.toList)) ∧ Below w.heap.size w w') at HR
  have HQ := HP
  have E1 := fun x y w => run_eqGuard_page w x y p p
  have E2 := fun w => run_eql_same w p hp
  have E3 : ∀ (x y : Operand) (w : World), (eqGuard .neq 30 x y (.agg (entL n s).toArray) (.agg #[.int .i64 0, .string ⟨#[]⟩])).run Try.prog w = .ok () w := fun x y w => run_ngd_ent _ (Or.inr rfl) x y n 0 s ⟨#[]⟩ w
  have E4 : ∀ (w : World), (binOp .neq 30 (.agg (entL n s).toArray) (.agg #[.int .i64 0, .string ⟨#[]⟩])).run Try.prog w = .ok (.bool (!(n == 0 && s.toList == (⟨#[]⟩ : ByteArray).toList))) w := fun w => run_neq_ent _ (Or.inr rfl) n 0 s ⟨#[]⟩ w
  clear hp hq
  rcases hc3 with hc1 | ⟨hc1, hc2⟩ | ⟨hc1, hc2, hr, hz⟩
  · clear E3 E4 HR
    unfold pageV entV
    go_enter Try.func4, Try.ntmps4
    go_wp2_with fail
    refine (awake_any _).mono ?_
    rintro e w1 ⟨rfl, hb⟩
    have S := Lib.hid (S0.out.call hb)
    clear hb S0
    have hc := S.out.at0.cell 1 _ rfl
    go_wp2_with (first
      | (with_reducible refine wpList_load_row entT S.out.at0 (entL_len _ _) rfl (.tmp 5) rfl rfl ?_)
      | ((with_reducible refine wpList_store_newrow rentT (vs := entL n s) (entL_len _ _) (entL_one _ _) rfl (.tmp 7) (.tmp 17) rfl rfl ?_ ?_ ?_); (exact rfl); (exact rfl); intro W3 hP hb hz; have T := Lib.hid (S.out.add hb hP (Nat.succ_pos 1)); clear hP hb hz hc S; generalize w1.heap.size = D7 at T ⊢)
      | (with_reducible refine wpList_load_page (rows_page T.out.tl.tl.at0 HP.out) rfl (.tmp 3) rfl rfl ?_)
      | (with_reducible refine wpList_load_row entT T.out.tl.at0 (entL_len _ _) rfl (.tmp 5) rfl rfl ?_)
      | (go_at_call 13; (with_reducible refine (HT.out _).mono ?_); rintro e w2 ⟨rfl, hb⟩; replace T := Lib.hid (T.out.call hb); clear hb)
      | ((with_reducible refine wpList_store_new rfl (.tmp 8) (.tmp 21) rfl rfl ?_ ?_ HQ.out ?_); (exact rfl); (exact rfl); intro W4 hP hb hz; have U := Lib.hid (T.out.add hb (page_rows hP) (byteVals_pos HQ.out)); clear hP hb hz T; generalize w2.heap.size = D8 at U ⊢)
      | ((with_reducible refine wpList_loadg_row rentT U.out.tl.at0 (entL_len _ _) (.tmp 7) rfl rfl ?_ ?_); (exact rfl))
      | (go_at_call 12; (with_reducible refine (HR.out _).mono ?_); rintro e w5 ⟨rfl, hb⟩; replace U := Lib.hid (U.out.call hb); clear hb)
      | (with_reducible refine wpList_load_page (rows_page U.out.at0 HQ.out) rfl (.tmp 8) rfl rfl ?_)
      | (with_reducible refine wpList_load_page (rows_page U.out.tl.tl.tl.at0 HP.out) rfl (.tmp 3) rfl rfl ?_))
    go_ret
    exact ⟨rfl, U.out.below⟩
  · clear E3 E4 HR
    unfold pageV entV
    go_enter Try.func4, Try.ntmps4
    go_wp2_with fail
    refine (awake_any _).mono ?_
    rintro e w1 ⟨rfl, hb⟩
    have S := Lib.hid (S0.out.call hb)
    clear hb S0
    have hc := S.out.at0.cell 1 _ rfl
    go_wp2_with (first
      | (with_reducible refine wpList_load_row entT S.out.at0 (entL_len _ _) rfl (.tmp 5) rfl rfl ?_)
      | ((with_reducible refine wpList_store_newrow rentT (vs := entL n s) (entL_len _ _) (entL_one _ _) rfl (.tmp 7) (.tmp 17) rfl rfl ?_ ?_ ?_); (exact rfl); (exact rfl); intro W3 hP hb hz; have T := Lib.hid (S.out.add hb hP (Nat.succ_pos 1)); clear hP hb hz hc S; generalize w1.heap.size = D7 at T ⊢)
      | (with_reducible refine wpList_load_page (rows_page T.out.tl.tl.at0 HP.out) rfl (.tmp 3) rfl rfl ?_)
      | (with_reducible refine wpList_load_row entT T.out.tl.at0 (entL_len _ _) rfl (.tmp 5) rfl rfl ?_)
      | (go_at_call 13; (with_reducible refine (HT.out _).mono ?_); rintro e w2 ⟨rfl, hb⟩; replace T := Lib.hid (T.out.call hb); clear hb)
      | ((with_reducible refine wpList_store_new rfl (.tmp 8) (.tmp 21) rfl rfl ?_ ?_ HQ.out ?_); (exact rfl); (exact rfl); intro W4 hP hb hz; have U := Lib.hid (T.out.add hb (page_rows hP) (byteVals_pos HQ.out)); clear hP hb hz T; generalize w2.heap.size = D8 at U ⊢)
      | ((with_reducible refine wpList_loadg_row rentT U.out.tl.at0 (entL_len _ _) (.tmp 7) rfl rfl ?_ ?_); (exact rfl))
      | (go_at_call 12; (with_reducible refine (HR.out _).mono ?_); rintro e w5 ⟨rfl, hb⟩; replace U := Lib.hid (U.out.call hb); clear hb)
      | (with_reducible refine wpList_load_page (rows_page U.out.at0 HQ.out) rfl (.tmp 8) rfl rfl ?_)
      | (with_reducible refine wpList_load_page (rows_page U.out.tl.tl.tl.at0 HP.out) rfl (.tmp 3) rfl rfl ?_))
    go_ret
    exact ⟨rfl, U.out.below⟩
  · rw [hr] at HR
    rw [hz] at E4
    have hd1 : decide (i < 0) = false := decide_eq_false hc1
    have hd2 : decide (3 < i) = false := decide_eq_false hc2
    clear hr hz
    unfold pageV entV
    go_enter Try.func4, Try.ntmps4
    go_wp2_with fail
    refine (awake_any _).mono ?_
    rintro e w1 ⟨rfl, hb⟩
    have S := Lib.hid (S0.out.call hb)
    clear hb S0
    have hc := S.out.at0.cell 1 _ rfl
    go_wp2_with (first
      | (with_reducible refine wpList_load_row entT S.out.at0 (entL_len _ _) rfl (.tmp 5) rfl rfl ?_)
      | ((with_reducible refine wpList_store_newrow rentT (vs := entL n s) (entL_len _ _) (entL_one _ _) rfl (.tmp 7) (.tmp 17) rfl rfl ?_ ?_ ?_); (exact rfl); (exact rfl); intro W3 hP hb hz; have T := Lib.hid (S.out.add hb hP (Nat.succ_pos 1)); clear hP hb hz hc S; generalize w1.heap.size = D7 at T ⊢)
      | (with_reducible refine wpList_load_page (rows_page T.out.tl.tl.at0 HP.out) rfl (.tmp 3) rfl rfl ?_)
      | (with_reducible refine wpList_load_row entT T.out.tl.at0 (entL_len _ _) rfl (.tmp 5) rfl rfl ?_)
      | (go_at_call 13; (with_reducible refine (HT.out _).mono ?_); rintro e w2 ⟨rfl, hb⟩; replace T := Lib.hid (T.out.call hb); clear hb)
      | ((with_reducible refine wpList_store_new rfl (.tmp 8) (.tmp 21) rfl rfl ?_ ?_ HQ.out ?_); (exact rfl); (exact rfl); intro W4 hP hb hz; have U := Lib.hid (T.out.add hb (page_rows hP) (byteVals_pos HQ.out)); clear hP hb hz T; generalize w2.heap.size = D8 at U ⊢)
      | ((with_reducible refine wpList_loadg_row rentT U.out.tl.at0 (entL_len _ _) (.tmp 7) rfl rfl ?_ ?_); (exact rfl))
      | (go_at_call 12; (with_reducible refine (HR.out _).mono ?_); rintro e w5 ⟨rfl, hb⟩; replace U := Lib.hid (U.out.call hb); clear hb)
      | (with_reducible refine wpList_load_page (rows_page U.out.at0 HQ.out) rfl (.tmp 8) rfl rfl ?_)
      | (with_reducible refine wpList_load_page (rows_page U.out.tl.tl.tl.at0 HP.out) rfl (.tmp 3) rfl rfl ?_))
    go_ret
    exact ⟨rfl, U.out.below⟩
set_option maxRecDepth 100000 in
set_option maxHeartbeats 4000000 in
theorem puts (p : List UInt8) (k : Nat) (n : Int) (s : ByteArray) (w : World) (hp : p.length = 64) (hk : k < 4) (hs : Nm.standB n s.data.toList = true) (hc3 : Nm.rightB n s.data.toList = true ∨ (Nm.rightB n s.data.toList = false ∧ (n == 0 && s.toList == (⟨#[]⟩ : ByteArray).toList) = true)) :
    Calls Try.prog 4 #[pageV p, .int .i64 (k : Int), entV n s] w fun e w' => e = .returned (.bool true) ∧ Below w.heap.size w w' := by
  have hbd := Nm.stand_bd hs
  have hsz : s.size ≤ 13 := by rw [← size_list]; exact hbd.2.2
  have hm : s.size ≤ maxLen := by unfold maxLen; omega
  have S0 := Lib.hid (start p n s w hp)
  have HP := Lib.hid hp
  have hI : (s.size : Int) ≤ 13 := by omega
  have hb16 := Nm.slot_length n hbd.2.2
  have hq0 : putF p (k : Int) n s.data.toList = Nm.lay p k (Nm.slot n s.data.toList) := by
    unfold putF
    rw [if_pos ⟨decide_eq_true ⟨by omega, by omega⟩, hs⟩, Int.toNat_natCast]
  have HT := Lib.hid (fun w => put_any p (k : Int) n s w hp hm)
  rw [hq0] at HT
  have HG := Lib.hid (fun w => get_at (Nm.lay p k (Nm.slot n s.data.toList)) k w (Nm.lay_length hp hk hb16) hk)
  rw [Nm.at_lay hp hk hb16, Nm.ent_slot hs] at HG
  have HR := Lib.hid (fun w => refRight_any n s w hm)
  have H1 := Lib.hid (fun w => refSlot_any n s w hbd.1 hbd.2.1 hsz)
  have H2 := Lib.hid (fun w => refPut_any p k (Nm.slot n s.data.toList) w hp hk hb16)
  have HQ := Lib.hid (Nm.lay_length hp hk hb16)
  generalize Nm.lay p k (Nm.slot n s.data.toList) = q at HT HG H2 HQ
  generalize Nm.slot n s.data.toList = b at H1 H2
  have hst : strOf s.data.toList = s := strOf_bytes s
  change Hid (∀ w, Calls Try.prog 13 #[pageV p, .int .i64 (k : Int), .agg (entL n s).toArray] w fun e w' => e = .returned (pageV q) ∧ Below w.heap.size w w') at HT
  change Hid (∀ w, Calls Try.prog 14 #[pageV q, .int .i64 (k : Int)] w fun e w' => e = .returned (.tuple #[.agg (entL n (strOf s.data.toList)).toArray, .int .i64 0]) ∧ Below w.heap.size w w') at HG
  rw [hst] at HG
  change Hid (∀ w, Calls Try.prog 12 #[.agg (entL n s).toArray] w fun e w' => e = .returned (.bool (Nm.rightB n s.data.toList)) ∧ Below w.heap.size w w') at HR
  have E3 : ∀ (x y : Operand) (w : World), (eqGuard .neq 30 x y (.agg (entL n s).toArray) (.agg #[.int .i64 0, .string ⟨#[]⟩])).run Try.prog w = .ok () w := fun x y w => run_ngd_ent _ (Or.inr rfl) x y n 0 s ⟨#[]⟩ w
  have E4 : ∀ (w : World), (binOp .neq 30 (.agg (entL n s).toArray) (.agg #[.int .i64 0, .string ⟨#[]⟩])).run Try.prog w = .ok (.bool (!(n == 0 && s.toList == (⟨#[]⟩ : ByteArray).toList))) w := fun w => run_neq_ent _ (Or.inr rfl) n 0 s ⟨#[]⟩ w
  have X1 := Lib.hid (fun x y w => run_eqGuard_page w x y q q)
  have X2 := Lib.hid (fun w => run_eql_same w q HQ.out)
  have X3 : Hid (∀ (x y : Operand) (w : World), (eqGuard .eql 23 x y (.agg (entL n s).toArray) (.agg (entL n s).toArray)).run Try.prog w = .ok () w) := Lib.hid (fun x y w => run_egd_ent _ (Or.inl rfl) x y n n s s w)
  have X4 : Hid (∀ (w : World), (binOp .eql 23 (.agg (entL n s).toArray) (.agg (entL n s).toArray)).run Try.prog w = .ok (.bool true) w) := Lib.hid (fun w => (run_eql_ent _ (Or.inl rfl) n n s s w).trans (by rw [ent_refl]))
  have hk0 : decide ((k : Int) < 0) = false := decide_eq_false (by omega)
  have hk3 : decide ((3 : Int) < (k : Int)) = false := decide_eq_false (by omega)
  clear hp hs hq0 hb16 hst hbd hsz hm
  rcases hc3 with hr | ⟨hr, hz⟩
  · rw [hr] at HR
    clear hr E3 E4
    unfold pageV entV
    go_enter Try.func4, Try.ntmps4
    go_wp2_with fail
    refine (awake_any _).mono ?_
    rintro e w1 ⟨rfl, hb⟩
    have S := Lib.hid (S0.out.call hb)
    clear hb S0
    have hc := S.out.at0.cell 1 _ rfl
    go_wp2_with (first
      | (with_reducible refine wpList_load_row entT S.out.at0 (entL_len _ _) rfl (.tmp 5) rfl rfl ?_)
      | ((with_reducible refine wpList_store_newrow rentT (vs := entL n s) (entL_len _ _) (entL_one _ _) rfl (.tmp 7) (.tmp 17) rfl rfl ?_ ?_ ?_); (exact rfl); (exact rfl); intro W3 hP hb hz; have T := Lib.hid (S.out.add hb hP (Nat.succ_pos 1)); clear hP hb hz hc S; generalize w1.heap.size = D7 at T ⊢)
      | (with_reducible refine wpList_load_page (rows_page T.out.tl.tl.at0 HP.out) rfl (.tmp 3) rfl rfl ?_)
      | (with_reducible refine wpList_load_row entT T.out.tl.at0 (entL_len _ _) rfl (.tmp 5) rfl rfl ?_)
      | (go_at_call 13; (with_reducible refine (HT.out _).mono ?_); rintro e w2 ⟨rfl, hb⟩; replace T := Lib.hid (T.out.call hb); clear hb)
      | ((with_reducible refine wpList_store_new rfl (.tmp 8) (.tmp 21) rfl rfl ?_ ?_ HQ.out ?_); (exact rfl); (exact rfl); intro W4 hP hb hz; have U := Lib.hid (T.out.add hb (page_rows hP) (byteVals_pos HQ.out)); clear hP hb hz T; generalize w2.heap.size = D8 at U ⊢)
      | ((with_reducible refine wpList_loadg_row rentT U.out.tl.at0 (entL_len _ _) (.tmp 7) rfl rfl ?_ ?_); (exact rfl))
      | (go_at_call 12; (with_reducible refine (HR.out _).mono ?_); rintro e w5 ⟨rfl, hb⟩; replace U := Lib.hid (U.out.call hb); clear hb)
      | (with_reducible refine wpList_load_page (rows_page U.out.at0 HQ.out) rfl (.tmp 8) rfl rfl ?_)
      | (with_reducible refine wpList_load_page (rows_page U.out.tl.tl.tl.at0 HP.out) rfl (.tmp 3) rfl rfl ?_)
      | (with_reducible refine wpList_load_page (rows_page U.out.at0 HQ.out) rfl (.tmp 8) rfl rfl ?_)
      | (go_at_call 14; (with_reducible refine (HG.out _).mono ?_); rintro e w6 ⟨rfl, hb⟩; replace U := Lib.hid (U.out.call hb); clear hb)
      | ((with_reducible refine wpList_store_newrow entT (vs := entL n s) (entL_len _ _) (entL_one _ _) rfl (.tmp 9) (.tmp 45) rfl rfl ?_ ?_ ?_); (exact rfl); (exact rfl); intro W7 hP hb hz; have V := Lib.hid (U.out.add hb hP (Nat.succ_pos 1)); clear hP hb hz U; generalize w6.heap.size = D9 at V ⊢))
    refine wq_region (C := RowsS w [(D9, entL n s), (D8, byteVals q), (D7, entL n s), (w.heap.size + 1, entL n s), (w.heap.size, byteVals p)]) (by kernel_rfl) V.out.drew ?_
    refine wq_page (.tmp 8) rfl rfl (by kernel_rfl) (fun _ hC => rows_page hC.tl.at0 HQ.out) ?_
    (try simp only [Act.put, List.setIfInBounds_toArray, List.set_cons_zero, List.set_cons_succ])
    refine wq_page (.tmp 3) rfl rfl (by kernel_rfl) (fun _ hC => rows_page hC.tl.tl.tl.tl.at0 HP.out) ?_
    (try simp only [Act.put, List.setIfInBounds_toArray, List.set_cons_zero, List.set_cons_succ])
    refine wq_take (.int .i64 (k : Int)) (by kernel_rfl) ?_ ?_
    · (intro _ _; go_simp)
    (try simp only [Act.put, List.setIfInBounds_toArray, List.set_cons_zero, List.set_cons_succ])
    refine wq_row rentT (entL_len _ _) (.tmp 7) rfl rfl (by kernel_rfl) (fun _ hC => hC.tl.tl.at0) ?_
    (try simp only [Act.put, List.setIfInBounds_toArray, List.set_cons_zero, List.set_cons_succ])
    refine wq_call 16 #[entV n s] (pageV b) (by kernel_rfl) (fun _ => by go_simp <;> rfl) (fun W hC => (H1.out W).mono fun _ _ h => ⟨h.1, hC.call h.2⟩) ?_
    (try simp only [Act.put, List.setIfInBounds_toArray, List.set_cons_zero, List.set_cons_succ])
    refine wq_call 15 #[pageV p, .int .i64 (k : Int), pageV b] (pageV q) (by kernel_rfl) (fun _ => by go_simp <;> rfl) (fun W hC => (H2.out W).mono fun _ _ h => ⟨h.1, hC.call h.2⟩) ?_
    (try simp only [Act.put, List.setIfInBounds_toArray, List.set_cons_zero, List.set_cons_succ])
    refine wq_take (.bool true) (by kernel_rfl) ?_ ?_
    · (intro w' _; have h1 := fun x y => X1.out x y w'; have h2 := X2.out w'; go_simp)
    (try simp only [Act.put, List.setIfInBounds_toArray, List.set_cons_zero, List.set_cons_succ])
    refine wq_take (.bool true) (by kernel_rfl) ?_ ?_
    · (intro _ _; go_simp)
    (try simp only [Act.put, List.setIfInBounds_toArray, List.set_cons_zero, List.set_cons_succ])
    refine wq_take (.int .i64 0) (by kernel_rfl) ?_ ?_
    · (intro _ _; go_simp)
    (try simp only [Act.put, List.setIfInBounds_toArray, List.set_cons_zero, List.set_cons_succ])
    refine wq_take (.bool true) (by kernel_rfl) ?_ ?_
    · (intro _ _; go_simp)
    (try simp only [Act.put, List.setIfInBounds_toArray, List.set_cons_zero, List.set_cons_succ])
    refine wq_take (.bool true) (by kernel_rfl) ?_ ?_
    · (intro _ _; go_simp)
    (try simp only [Act.put, List.setIfInBounds_toArray, List.set_cons_zero, List.set_cons_succ])
    refine wq_take (.bool true) (by kernel_rfl) ?_ ?_
    · (intro _ _; go_simp)
    (try simp only [Act.put, List.setIfInBounds_toArray, List.set_cons_zero, List.set_cons_succ])
    refine wq_row entT (entL_len _ _) (.tmp 9) rfl rfl (by kernel_rfl) (fun _ hC => hC.at0) ?_
    (try simp only [Act.put, List.setIfInBounds_toArray, List.set_cons_zero, List.set_cons_succ])
    refine wq_row entT (entL_len _ _) (.tmp 5) rfl rfl (by kernel_rfl) (fun _ hC => hC.tl.tl.tl.at0) ?_
    (try simp only [Act.put, List.setIfInBounds_toArray, List.set_cons_zero, List.set_cons_succ])
    refine wq_take (.bool true) (by kernel_rfl) ?_ ?_
    · (intro w' _; exact run_held rfl rfl rfl (X3.out _ _ w') (X4.out w'))
    (try simp only [Act.put, List.setIfInBounds_toArray, List.set_cons_zero, List.set_cons_succ])
    refine wq_take (.bool true) (by kernel_rfl) ?_ ?_
    · (intro _ _; go_simp)
    (try simp only [Act.put, List.setIfInBounds_toArray, List.set_cons_zero, List.set_cons_succ])
    refine wq_take (.bool true) (by kernel_rfl) ?_ ?_
    · (intro _ _; go_simp)
    (try simp only [Act.put, List.setIfInBounds_toArray, List.set_cons_zero, List.set_cons_succ])
    refine wq_nil ?_
    intro W8 hC
    have V8 := Lib.hid hC
    clear hC V
    go_wp2
    go_ret
    exact ⟨rfl, V8.out.below⟩
  · rw [hr] at HR
    rw [hz] at E4
    clear hr hz
    unfold pageV entV
    go_enter Try.func4, Try.ntmps4
    go_wp2_with fail
    refine (awake_any _).mono ?_
    rintro e w1 ⟨rfl, hb⟩
    have S := Lib.hid (S0.out.call hb)
    clear hb S0
    have hc := S.out.at0.cell 1 _ rfl
    go_wp2_with (first
      | (with_reducible refine wpList_load_row entT S.out.at0 (entL_len _ _) rfl (.tmp 5) rfl rfl ?_)
      | ((with_reducible refine wpList_store_newrow rentT (vs := entL n s) (entL_len _ _) (entL_one _ _) rfl (.tmp 7) (.tmp 17) rfl rfl ?_ ?_ ?_); (exact rfl); (exact rfl); intro W3 hP hb hz; have T := Lib.hid (S.out.add hb hP (Nat.succ_pos 1)); clear hP hb hz hc S; generalize w1.heap.size = D7 at T ⊢)
      | (with_reducible refine wpList_load_page (rows_page T.out.tl.tl.at0 HP.out) rfl (.tmp 3) rfl rfl ?_)
      | (with_reducible refine wpList_load_row entT T.out.tl.at0 (entL_len _ _) rfl (.tmp 5) rfl rfl ?_)
      | (go_at_call 13; (with_reducible refine (HT.out _).mono ?_); rintro e w2 ⟨rfl, hb⟩; replace T := Lib.hid (T.out.call hb); clear hb)
      | ((with_reducible refine wpList_store_new rfl (.tmp 8) (.tmp 21) rfl rfl ?_ ?_ HQ.out ?_); (exact rfl); (exact rfl); intro W4 hP hb hz; have U := Lib.hid (T.out.add hb (page_rows hP) (byteVals_pos HQ.out)); clear hP hb hz T; generalize w2.heap.size = D8 at U ⊢)
      | ((with_reducible refine wpList_loadg_row rentT U.out.tl.at0 (entL_len _ _) (.tmp 7) rfl rfl ?_ ?_); (exact rfl))
      | (go_at_call 12; (with_reducible refine (HR.out _).mono ?_); rintro e w5 ⟨rfl, hb⟩; replace U := Lib.hid (U.out.call hb); clear hb)
      | (with_reducible refine wpList_load_page (rows_page U.out.at0 HQ.out) rfl (.tmp 8) rfl rfl ?_)
      | (with_reducible refine wpList_load_page (rows_page U.out.tl.tl.tl.at0 HP.out) rfl (.tmp 3) rfl rfl ?_)
      | (with_reducible refine wpList_load_page (rows_page U.out.at0 HQ.out) rfl (.tmp 8) rfl rfl ?_)
      | (go_at_call 14; (with_reducible refine (HG.out _).mono ?_); rintro e w6 ⟨rfl, hb⟩; replace U := Lib.hid (U.out.call hb); clear hb)
      | ((with_reducible refine wpList_store_newrow entT (vs := entL n s) (entL_len _ _) (entL_one _ _) rfl (.tmp 9) (.tmp 45) rfl rfl ?_ ?_ ?_); (exact rfl); (exact rfl); intro W7 hP hb hz; have V := Lib.hid (U.out.add hb hP (Nat.succ_pos 1)); clear hP hb hz U; generalize w6.heap.size = D9 at V ⊢))
    refine wq_region (C := RowsS w [(D9, entL n s), (D8, byteVals q), (D7, entL n s), (w.heap.size + 1, entL n s), (w.heap.size, byteVals p)]) (by kernel_rfl) V.out.drew ?_
    refine wq_page (.tmp 8) rfl rfl (by kernel_rfl) (fun _ hC => rows_page hC.tl.at0 HQ.out) ?_
    (try simp only [Act.put, List.setIfInBounds_toArray, List.set_cons_zero, List.set_cons_succ])
    refine wq_page (.tmp 3) rfl rfl (by kernel_rfl) (fun _ hC => rows_page hC.tl.tl.tl.tl.at0 HP.out) ?_
    (try simp only [Act.put, List.setIfInBounds_toArray, List.set_cons_zero, List.set_cons_succ])
    refine wq_take (.int .i64 (k : Int)) (by kernel_rfl) ?_ ?_
    · (intro _ _; go_simp)
    (try simp only [Act.put, List.setIfInBounds_toArray, List.set_cons_zero, List.set_cons_succ])
    refine wq_row rentT (entL_len _ _) (.tmp 7) rfl rfl (by kernel_rfl) (fun _ hC => hC.tl.tl.at0) ?_
    (try simp only [Act.put, List.setIfInBounds_toArray, List.set_cons_zero, List.set_cons_succ])
    refine wq_call 16 #[entV n s] (pageV b) (by kernel_rfl) (fun _ => by go_simp <;> rfl) (fun W hC => (H1.out W).mono fun _ _ h => ⟨h.1, hC.call h.2⟩) ?_
    (try simp only [Act.put, List.setIfInBounds_toArray, List.set_cons_zero, List.set_cons_succ])
    refine wq_call 15 #[pageV p, .int .i64 (k : Int), pageV b] (pageV q) (by kernel_rfl) (fun _ => by go_simp <;> rfl) (fun W hC => (H2.out W).mono fun _ _ h => ⟨h.1, hC.call h.2⟩) ?_
    (try simp only [Act.put, List.setIfInBounds_toArray, List.set_cons_zero, List.set_cons_succ])
    refine wq_take (.bool true) (by kernel_rfl) ?_ ?_
    · (intro w' _; have h1 := fun x y => X1.out x y w'; have h2 := X2.out w'; go_simp)
    (try simp only [Act.put, List.setIfInBounds_toArray, List.set_cons_zero, List.set_cons_succ])
    refine wq_take (.bool true) (by kernel_rfl) ?_ ?_
    · (intro _ _; go_simp)
    (try simp only [Act.put, List.setIfInBounds_toArray, List.set_cons_zero, List.set_cons_succ])
    refine wq_take (.int .i64 0) (by kernel_rfl) ?_ ?_
    · (intro _ _; go_simp)
    (try simp only [Act.put, List.setIfInBounds_toArray, List.set_cons_zero, List.set_cons_succ])
    refine wq_take (.bool true) (by kernel_rfl) ?_ ?_
    · (intro _ _; go_simp)
    (try simp only [Act.put, List.setIfInBounds_toArray, List.set_cons_zero, List.set_cons_succ])
    refine wq_take (.bool true) (by kernel_rfl) ?_ ?_
    · (intro _ _; go_simp)
    (try simp only [Act.put, List.setIfInBounds_toArray, List.set_cons_zero, List.set_cons_succ])
    refine wq_take (.bool true) (by kernel_rfl) ?_ ?_
    · (intro _ _; go_simp)
    (try simp only [Act.put, List.setIfInBounds_toArray, List.set_cons_zero, List.set_cons_succ])
    refine wq_row entT (entL_len _ _) (.tmp 9) rfl rfl (by kernel_rfl) (fun _ hC => hC.at0) ?_
    (try simp only [Act.put, List.setIfInBounds_toArray, List.set_cons_zero, List.set_cons_succ])
    refine wq_row entT (entL_len _ _) (.tmp 5) rfl rfl (by kernel_rfl) (fun _ hC => hC.tl.tl.tl.at0) ?_
    (try simp only [Act.put, List.setIfInBounds_toArray, List.set_cons_zero, List.set_cons_succ])
    refine wq_take (.bool true) (by kernel_rfl) ?_ ?_
    · (intro w' _; exact run_held rfl rfl rfl (X3.out _ _ w') (X4.out w'))
    (try simp only [Act.put, List.setIfInBounds_toArray, List.set_cons_zero, List.set_cons_succ])
    refine wq_take (.bool true) (by kernel_rfl) ?_ ?_
    · (intro _ _; go_simp)
    (try simp only [Act.put, List.setIfInBounds_toArray, List.set_cons_zero, List.set_cons_succ])
    refine wq_take (.bool true) (by kernel_rfl) ?_ ?_
    · (intro _ _; go_simp)
    (try simp only [Act.put, List.setIfInBounds_toArray, List.set_cons_zero, List.set_cons_succ])
    refine wq_nil ?_
    intro W8 hC
    have V8 := Lib.hid hC
    clear hC V
    go_wp2
    go_ret
    exact ⟨rfl, V8.out.below⟩
theorem walk (p : List UInt8) (i n : Int) (s : ByteArray) (w : World) (hp : p.length = 64) (hm : s.size ≤ maxLen) :
    Calls Try.prog 4 #[pageV p, .int .i64 i, entV n s] w fun e w' => e = .returned (.bool true) ∧ Below w.heap.size w w' := by
  by_cases h : 300 < s.size
  · exact far p i n s w hp hm h
  · by_cases ht : thereB i = true
    · obtain ⟨k, rfl, hk⟩ := there_nat ht
      cases hs : Nm.standB n s.data.toList with
      | false =>
        have h2 := Bool.or_eq_false_iff.1 hs
        refine stays p (k : Int) n s w hp hm (by omega) ?_ (Or.inr (Or.inr ⟨by omega, by omega, h2.2, ?_⟩))
        · unfold putF
          rw [if_neg (fun h => by rw [hs] at h; cases h.2)]
        · have h3 := of_decide_eq_false h2.1
          cases h4 : (n == 0 && s.toList == (⟨#[]⟩ : ByteArray).toList) with
          | false => rfl
          | true =>
            exfalso
            apply h3
            rw [Bool.and_eq_true, beq_iff_eq, beq_iff_eq] at h4
            exact ⟨h4.1, by rw [← Lib.toList_data, h4.2, Lib.toList_data]⟩
      | true =>
        refine puts p k n s w hp hk hs ?_
        rcases Nm.stand_yes hs with ⟨h1, h2⟩ | h1
        · right
          subst h1
          refine ⟨right_low 0 _ (by omega), ?_⟩
          have h3 : s.toList = (⟨#[]⟩ : ByteArray).toList := by rw [Lib.toList_data, h2, Lib.toList_data]
          rw [h3, beq_self_eq_true, beq_self_eq_true]
          rfl
        · left
          exact decide_eq_true h1
    · have ht' : thereB i = false := by simpa using ht
      refine stays p i n s w hp hm (by omega) ?_ ?_
      · unfold putF
        rw [if_neg (fun h => ht h.1)]
      · have := of_decide_eq_false ht'
        omega
set_option maxRecDepth 100000 in
theorem lifted (os : Os) (started : os.Started) (H : Type) (enc : TypeId × Value → H) :
    ReturnsInHanded {} Try.checked os 4 .any (Rows.slotPutsSpec.pre6 enc Try.prog Try.f4 Rows.slotPutsRow.domain false) (Rows.slotPutsSpec.post enc Try.prog Try.f4 false true false false) := by
  refine returnsInHanded_of_change (C := Try.checked) own started (by kernel_rfl) Try.func4
    (ChangeSpec.witness6 (enc := enc) (C := Try.checked) false ⟨#[], #[.agg #[.int .u8 0, .int .u8 0, .int .u8 0, .int .u8 0, .int .u8 0, .int .u8 0, .int .u8 0, .int .u8 0, .int .u8 0, .int .u8 0, .int .u8 0, .int .u8 0, .int .u8 0, .int .u8 0, .int .u8 0, .int .u8 0, .int .u8 0, .int .u8 0, .int .u8 0, .int .u8 0, .int .u8 0, .int .u8 0, .int .u8 0, .int .u8 0, .int .u8 0, .int .u8 0, .int .u8 0, .int .u8 0, .int .u8 0, .int .u8 0, .int .u8 0, .int .u8 0, .int .u8 0, .int .u8 0, .int .u8 0, .int .u8 0, .int .u8 0, .int .u8 0, .int .u8 0, .int .u8 0, .int .u8 0, .int .u8 0, .int .u8 0, .int .u8 0, .int .u8 0, .int .u8 0, .int .u8 0, .int .u8 0, .int .u8 0, .int .u8 0, .int .u8 0, .int .u8 0, .int .u8 0, .int .u8 0, .int .u8 0, .int .u8 0, .int .u8 0, .int .u8 0, .int .u8 0, .int .u8 0, .int .u8 0, .int .u8 0, .int .u8 0, .int .u8 0], .int .i64 0, .agg #[.int .i64 0, .string ⟨#[]⟩]], []⟩ 8 (by kernel_rfl) (by kernel_rfl) (by kernel_rfl) (by kernel_rfl)) ?_
  intro W base args ds gs before hval0 hW hcnd _
  have hval : ∀ (j : Nat) t v, Try.f4.params[j]? = some t → args[j]? = some v → Value.okWide Try.prog W .any base t v := hval0
  have hW' := hW
  obtain ⟨p, q, hA0, hV, rfl, hfz, hnd⟩ := hW
  have hA : DataW.TrodAll enc Try.prog W 0 (fun _ => true) true Try.f4.params.toList args.toList ds p := hA0
  rw [Try.params4] at hA hval
  obtain ⟨v0, vs0, d0, ds0, p0, q0, hargs, rfl, rfl, h0, r0⟩ := trodAll_cons hA
  obtain ⟨v1, vs1, d1, ds1, p1, q1, rfl, rfl, rfl, h1, r1⟩ := trodAll_cons r0
  obtain ⟨v2, vs2, d2, ds2, p2, q2, rfl, rfl, rfl, h2, r2⟩ := trodAll_cons r1
  obtain ⟨rfl, rfl, rfl⟩ := trodAll_nil r2
  obtain rfl : args = #[v0, v1, v2] := by cases args; simp_all
  obtain ⟨rfl, rfl⟩ := trodVars_none hV
  have k0 := h0
  have lt0 : ∀ x ∈ p0, x.block < W.heap.size := by obtain ⟨m, hm⟩ := k0; exact DataW.trod_lt m _ _ _ hm
  have k1 := h1
  have lt1 : ∀ x ∈ p1, x.block < W.heap.size := by obtain ⟨m, hm⟩ := k1; exact DataW.trod_lt m _ _ _ hm
  have k2 := h2
  have lt2 : ∀ x ∈ p2, x.block < W.heap.size := by obtain ⟨m, hm⟩ := k2; exact DataW.trod_lt m _ _ _ hm
  obtain ⟨p, hp, rfl⟩ := open_page (hval 0 32 v0 rfl rfl) h0
  obtain ⟨i, rfl, ed1, ep1, w1⟩ := open_int Try.underlying3 (hval 1 3 v1 rfl rfl) h1
  obtain ⟨n, s, rfl, hm⟩ := open_ent (hval 2 23 v2 rfl rfl) h2
  clear hA0 hval0
  refine (walk p i n s W hp hm).mono fun e W' ⟨he, bel⟩ => ?_
  subst he
  exact ⟨_, rfl, _, _, _, [], _, [], hW', trodAll_mk1 (shut_bool Try.underlying4 _), (trodAll_cons_mk (Below.trod laidOut (by kernel_rfl) (of_decide_eq_true (by kernel_rfl)) k0 bel lt0) (trodAll_cons_mk (Below.trod laidOut (by kernel_rfl) (of_decide_eq_true (by kernel_rfl)) k1 bel lt1) (trodAll_cons_mk (Below.trod laidOut (by kernel_rfl) (of_decide_eq_true (by kernel_rfl)) k2 bel lt2) trodAll_mk0))), rfl, bel.frame _, fun h => by cases h⟩
theorem over : Rows.slotPutsRow.holds Try.pinned (OpenSpec.ofChange Rows.slotPutsSpec) :=
  OpenClaim.holds_of_wide 4 Try.f4 rfl rfl rfl rfl rfl rfl rfl ⟨rfl, rfl, rfl, rfl, rfl⟩ rfl rfl rfl rfl rfl (by kernel_rfl) Try.func4 (by kernel_rfl)
    (of_decide_eq_true (by kernel_rfl)) (by unfold Func.isWrapper; first | (rw [if_pos (by decide +kernel)]; kernel_rfl) | (rw [if_neg (by decide +kernel)]; exact ⟨rfl, rfl⟩))
    (fun os started H enc _ => lifted os started H enc)

/-- THE STATEMENT -/
theorem proved : Rows.SlotPutsSaid := over
#print axioms proved
end Go.Proofs.Ytejedkdlehgnpaa.slotPuts
