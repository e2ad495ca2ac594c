/-
  The contract of the document's own Right.
-/
import Derived.Test.YtchlhnpnenafnaaIcnt
import Derived.Test.YtchlhnpnenafnaaIrput
namespace Go.Proofs.Ytchlhnpnenafnaa
open Go.RowKit
open Ii (Ino)

set_option maxRecDepth 100000 in
set_option maxHeartbeats 1000000 in
theorem rright_zero (p i : Int) (x : Ino) (w : World) (hk : x.k = 0) :
    Calls Try.prog 12 #[inoV x, rplanV p i (Pl.dataN i)] w fun e w' => e = .returned (.bool (Ii.zeroB x)) ∧ Below w.heap.size w w' := by
  have HS := Lib.hid (nrS_box w x (rplanL p i (Pl.dataN i)) 31 37)
  have g1 : (x.k == 0) = true := by simpa using hk
  have E1 : ∀ (a b : Operand) (w : World), (eqGuard .eql 31 a b (.agg #[.int .i64 x.k, .int .i64 x.p, .int .i64 x.u, .int .i64 x.l, .int .i64 x.s, .int .i64 x.a, .int .i64 x.b, .int .i64 x.c, .int .i64 x.d, .int .i64 x.e, .int .i64 x.f]) (.agg #[.int .i64 0, .int .i64 0, .int .i64 0, .int .i64 0, .int .i64 0, .int .i64 0, .int .i64 0, .int .i64 0, .int .i64 0, .int .i64 0, .int .i64 0])).run Try.prog w = .ok () w := fun a b w => run_eqGuard_rino w a b x Ii.zero
  have E2 : ∀ (w : World), (binOp .eql 31 (.agg #[.int .i64 x.k, .int .i64 x.p, .int .i64 x.u, .int .i64 x.l, .int .i64 x.s, .int .i64 x.a, .int .i64 x.b, .int .i64 x.c, .int .i64 x.d, .int .i64 x.e, .int .i64 x.f]) (.agg #[.int .i64 0, .int .i64 0, .int .i64 0, .int .i64 0, .int .i64 0, .int .i64 0, .int .i64 0, .int .i64 0, .int .i64 0, .int .i64 0, .int .i64 0])).run Try.prog w = .ok (.bool (Ii.zeroB x)) w := fun w => run_zero_rino w x
  clear hk
  generalize Pl.dataN i = D at HS ⊢
  unfold inoV rplanV
  go_enter Try.func12, Try.ntmps12
  go_wp2
  go_ret
  exact ⟨rfl, HS.out.below⟩

/-- what is known of the six numbers so far -/
def okB (p i : Int) (x : Ino) (k : Nat) : Bool := (Ii.numB p i x.e && Ii.numB p i x.f) && firstB p i x k
theorem okB_four (p i : Int) (x : Ino) : okB p i x 4 = Ii.numsB p i x := by
  rw [numsB_is]
  unfold okB
  exact Bool.and_comm _ _
theorem okB_succ (p i : Int) (x : Ino) (k : Nat) : okB p i x (k + 1) = (okB p i x k && Ii.numB p i (x.dir k)) := (Bool.and_assoc _ _ _).symm
theorem okB_no (p i : Int) (x : Ino) (k : Nat) (h : okB p i x k = false) : okB p i x (k + 1) = false := by
  rw [okB_succ, h]; rfl
theorem okB_yes (p i : Int) (x : Ino) (k : Nat) (h : okB p i x k = true) : okB p i x (k + 1) = Ii.numB p i (x.dir k) := by
  rw [okB_succ, h, Bool.true_and]
theorem inB_chain (p i : Int) (x : Ino) (hk : x.k ≠ 0) : Ii.inB p i x = (Ii.numsB p i x && (decide (1 ≤ x.k) && (decide (x.k ≤ 3) && (decide (0 ≤ x.p) && (decide (x.p ≤ 511) && (decide (0 ≤ x.u) && (decide (x.u ≤ 65535) && (decide (0 ≤ x.l) && (decide (x.l ≤ 40) && (decide (0 ≤ x.s) && decide (x.s ≤ 67840))))))))))) := by
  unfold Ii.inB Ii.cntB
  rw [if_neg hk]
  simp only [Bool.decide_and]
  generalize Ii.numsB p i x = n
  cases n <;> simp only [Bool.false_and, Bool.true_and, Bool.and_false, Bool.and_true, Bool.and_assoc]

set_option maxRecDepth 100000 in
set_option maxHeartbeats 2000000 in
theorem rright_ind (p i : Int) (x : Ino) (w : World) (hk : x.k ≠ 0) (he : Ii.numB p i x.e = false) :
    Calls Try.prog 12 #[inoV x, rplanV p i (Pl.dataN i)] w fun e w' => e = .returned (.bool false) ∧ Below w.heap.size w w' := by
  have HP : Hid (∀ w, Calls Try.prog 20 #[.int .i64 x.e, .agg #[.int .i64 p, .int .i64 i, .int .i64 (Pl.dataN i)]] w fun e w' => e = .returned (.bool false) ∧ Below w.heap.size w w') := Lib.hid (fun w => he ▸ refpage_any p i x.e w)
  have HS := Lib.hid (nrS_box w x (rplanL p i (Pl.dataN i)) 31 37)
  have g1 : (x.k == 0) = false := by rw [beq_eq_false_iff_ne]; exact hk
  clear hk he
  generalize Pl.dataN i = D at HS HP ⊢
  unfold inoV rplanV
  go_enter Try.func12, Try.ntmps12
  go_wp2_with fail
  generalize hw : (w.alloc _).alloc _ = w1
  have S : Hid (NrS w x (rplanL p i D) w1) := Lib.hid (by rw [← hw]; exact HS.out)
  clear hw HS g1
  go_wp2_with (first
    | (go_at_call 20; (with_reducible refine (HP.out _).mono ?_); rintro e w' ⟨rfl, hb⟩; (try clear i0 j0 j1 j2); replace S := Lib.hid (S.out.call hb); clear hb; have i0 := S.out.ino.cell 10 _ rfl; have j0 := S.out.plan.cell 0 _ rfl; have j1 := S.out.plan.cell 1 _ rfl; have j2 := S.out.plan.cell 2 _ rfl))
  clear i0 j0 j1 j2 HP
  go_loopw [5, 6] (fun o n wr => ∃ k : Nat, k ≤ 4 ∧ n = .int .i64 (k : Int) ∧ o = .bool false ∧ NrS w x (rplanL p i D) wr) (fun _ n _ => 4 - (intOf n).toNat)
  case atStart => exact ⟨0, by omega, rfl, rfl, S.out⟩
  case round =>
    clear S
    obtain ⟨k, hk, rfl, rfl, hS⟩ := hrel
    have S := Lib.hid hS
    clear hS
    by_cases hlt : k < 4
    · have HK := Lib.hid hlt
      go_wp2
      go_quiet (fail)
      go_wp2
      go_roundw
      case rel => exact ⟨k + 1, by have := HK.out; omega, by go_num, rfl, S.out.call (below_drewN _ _ _)⟩
      case measure => simp [intOf]; have := HK.out; omega
    · go_wp2
      go_ret
      exact ⟨rfl, S.out.below⟩
set_option maxRecDepth 100000 in
set_option maxHeartbeats 8000000 in
theorem rright_some (p i : Int) (x : Ino) (w : World) (hk : x.k ≠ 0) (he : Ii.numB p i x.e = true) :
    Calls Try.prog 12 #[inoV x, rplanV p i (Pl.dataN i)] w fun e w' => e = .returned (.bool (Ii.inB p i x)) ∧ Below w.heap.size w w' := by
  have HP : Hid (∀ n w, Calls Try.prog 20 #[.int .i64 n, .agg #[.int .i64 p, .int .i64 i, .int .i64 (Pl.dataN i)]] w fun e w' => e = .returned (.bool (Ii.numB p i n)) ∧ Below w.heap.size w w') := Lib.hid (fun n w => refpage_any p i n w)
  have HE : Hid (∀ w, Calls Try.prog 20 #[.int .i64 x.e, .agg #[.int .i64 p, .int .i64 i, .int .i64 (Pl.dataN i)]] w fun e w' => e = .returned (.bool true) ∧ Below w.heap.size w w') := Lib.hid (fun w => he ▸ refpage_any p i x.e w)
  have HF := Lib.hid (fun w => HP.out x.f w)
  have HB0 : Hid (Ii.numB p i x.f = okB p i x 0) := Lib.hid (by unfold okB firstB; rw [he, Bool.true_and, Bool.and_true])
  have HS := Lib.hid (nrS_box w x (rplanL p i (Pl.dataN i)) 31 37)
  have g1 : (x.k == 0) = false := by rw [beq_eq_false_iff_ne]; exact hk
  have HC := Lib.hid (inB_chain p i x hk)
  clear hk he
  obtain ⟨R, HR⟩ : ∃ b, Hid (b = Ii.inB p i x) := ⟨_, Lib.hid rfl⟩
  obtain ⟨Nn, HN⟩ : ∃ b, Hid (b = Ii.numsB p i x) := ⟨_, Lib.hid rfl⟩
  rw [← HR.out] at HC ⊢
  rw [← HN.out] at HC
  rw [← okB_four] at HN
  clear HR
  generalize hbf : Ii.numB p i x.f = bf at HF HB0
  clear hbf
  generalize Pl.dataN i = D at HS HP HE HF ⊢
  unfold inoV rplanV
  go_enter Try.func12, Try.ntmps12
  go_wp2_with fail
  generalize hw : (w.alloc _).alloc _ = w1
  have S : Hid (NrS w x (rplanL p i D) w1) := Lib.hid (by rw [← hw]; exact HS.out)
  clear hw HS g1
  go_wp2_with (first
    | (go_at_call 20; (with_reducible refine (HE.out _).mono ?_); rintro e w' ⟨rfl, hb⟩; (try clear i0 j0 j1 j2); replace S := Lib.hid (S.out.call hb); clear hb; have i0 := S.out.ino.cell 10 _ rfl; have j0 := S.out.plan.cell 0 _ rfl; have j1 := S.out.plan.cell 1 _ rfl; have j2 := S.out.plan.cell 2 _ rfl)
    | (go_at_call 20; (with_reducible refine (HF.out _).mono ?_); rintro e w' ⟨rfl, hb⟩; (try clear i0 j0 j1 j2); replace S := Lib.hid (S.out.call hb); clear hb; have i0 := S.out.ino.cell 10 _ rfl; have j0 := S.out.plan.cell 0 _ rfl; have j1 := S.out.plan.cell 1 _ rfl; have j2 := S.out.plan.cell 2 _ rfl))
  clear i0 j0 j1 j2 HE HF
  go_loopw [5, 6] (fun o n wr => ∃ k : Nat, ∃ b : Bool, k ≤ 4 ∧ n = .int .i64 (k : Int) ∧ o = .bool b ∧ Hid (b = okB p i x k) ∧ NrS w x (rplanL p i D) wr) (fun _ n _ => 4 - (intOf n).toNat)
  case atStart => exact ⟨0, bf, by omega, rfl, rfl, HB0, S.out⟩
  case round =>
    clear S HB0
    obtain ⟨k, b, hk, rfl, rfl, HB, hS⟩ := hrel
    have S := Lib.hid hS
    clear hS
    have hk : k = 0 ∨ k = 1 ∨ k = 2 ∨ k = 3 ∨ k = 4 := by omega
    rcases hk with rfl | rfl | rfl | rfl | rfl
    · cases b with
      | false =>
        have HB2 : Hid (false = okB p i x 1) := Lib.hid (okB_no p i x 0 HB.out.symm).symm
        clear HB HC HN HP
        go_wp2
        go_quiet (fail)
        go_wp2
        go_roundw
        case rel => exact ⟨1, false, by omega, rfl, rfl, HB2, S.out.call (below_drewN _ _ _)⟩
        case measure => simp [intOf]
      | true =>
        have HB2 := Lib.hid (okB_yes p i x 0 HB.out.symm)
        have HQ := Lib.hid (fun w => HP.out x.a w)
        obtain ⟨b2, HE2⟩ : ∃ b, Hid (b = Ii.numB p i x.a) := ⟨_, Lib.hid rfl⟩
        rw [← HE2.out] at HQ
        clear HB HC HN HP
        go_wp2_with fail
        refine wp_region_class (C := fun w' => Below wr.heap.size wr w') (by kernel_rfl) ⟨rfl, rfl, rfl, Nat.le_refl _, fun _ _ => rfl⟩ ?_
        refine wpQuiet_take (.bool true) (by kernel_rfl) (fun w' hw' => ?_) ?_
        · go_simp
        (try simp only [Act.put, List.setIfInBounds_toArray, List.set_cons_zero, List.set_cons_succ])
        refine wpQuiet_take (.bool true) (by kernel_rfl) (fun w' hw' => ?_) ?_
        · go_simp
        (try simp only [Act.put, List.setIfInBounds_toArray, List.set_cons_zero, List.set_cons_succ])
        refine wpQuiet_take (.int .i64 0) (by kernel_rfl) (fun w' hw' => ?_) ?_
        · go_simp
        (try simp only [Act.put, List.setIfInBounds_toArray, List.set_cons_zero, List.set_cons_succ])
        refine wpQuiet_take (.pointer (some ⟨w.heap.size, 5, none⟩)) (by kernel_rfl) (fun w' hw' => ?_) ?_
        · go_simp
        (try simp only [Act.put, List.setIfInBounds_toArray, List.set_cons_zero, List.set_cons_succ])
        refine wpQuiet_take (.pointer (some ⟨w.heap.size, 5, none⟩)) (by kernel_rfl) (fun w' hw' => ?_) ?_
        · have hix := index_addr0 w' w.heap.size; go_simp
        (try simp only [Act.put, List.setIfInBounds_toArray, List.set_cons_zero, List.set_cons_succ])
        refine wpQuiet_take (.int .i64 x.a) (by kernel_rfl) (fun w' hw' => ?_) ?_
        · have hc := (S.out.call hw').ino.cell 5 _ rfl; go_simp
        (try simp only [Act.put, List.setIfInBounds_toArray, List.set_cons_zero, List.set_cons_succ])
        refine wpQuiet_row rplanT (vs := rplanL p i D) rfl (.tmp 3) rfl rfl (by kernel_rfl) (fun w' hw' => (S.out.call hw').plan) ?_
        (try simp only [Act.put, List.setIfInBounds_toArray, List.set_cons_zero, List.set_cons_succ])
        refine wpQuiet_call 20 #[.int .i64 x.a, .agg #[.int .i64 p, .int .i64 i, .int .i64 D]] (.bool b2) (by kernel_rfl) (fun w' => by go_simp; rfl) (fun w' hw' => (HQ.out w').mono fun e w'' h => ⟨h.1, hw'.trans (h.2.mono hw'.size)⟩) ?_
        (try simp only [Act.put, List.setIfInBounds_toArray, List.set_cons_zero, List.set_cons_succ])
        refine wpQuiet_take (.bool b2) (by kernel_rfl) (fun w' hw' => ?_) ?_
        · go_simp
        (try simp only [Act.put, List.setIfInBounds_toArray, List.set_cons_zero, List.set_cons_succ])
        refine wpQuiet_take (.bool b2) (by kernel_rfl) (fun w' hw' => ?_) ?_
        · go_simp
        (try simp only [Act.put, List.setIfInBounds_toArray, List.set_cons_zero, List.set_cons_succ])
        refine wpQuiet_nil ?_
        intro w11 hw11
        replace S := Lib.hid (S.out.call hw11)
        go_wp2
        go_roundw
        case rel => exact ⟨1, b2, by omega, rfl, rfl, Lib.hid (HE2.out.trans HB2.out.symm), S.out⟩
        case measure => simp [intOf]
    · cases b with
      | false =>
        have HB2 : Hid (false = okB p i x 2) := Lib.hid (okB_no p i x 1 HB.out.symm).symm
        clear HB HC HN HP
        go_wp2
        go_quiet (fail)
        go_wp2
        go_roundw
        case rel => exact ⟨2, false, by omega, rfl, rfl, HB2, S.out.call (below_drewN _ _ _)⟩
        case measure => simp [intOf]
      | true =>
        have HB2 := Lib.hid (okB_yes p i x 1 HB.out.symm)
        have HQ := Lib.hid (fun w => HP.out x.b w)
        obtain ⟨b2, HE2⟩ : ∃ b, Hid (b = Ii.numB p i x.b) := ⟨_, Lib.hid rfl⟩
        rw [← HE2.out] at HQ
        clear HB HC HN HP
        go_wp2_with fail
        refine wp_region_class (C := fun w' => Below wr.heap.size wr w') (by kernel_rfl) ⟨rfl, rfl, rfl, Nat.le_refl _, fun _ _ => rfl⟩ ?_
        refine wpQuiet_take (.bool true) (by kernel_rfl) (fun w' hw' => ?_) ?_
        · go_simp
        (try simp only [Act.put, List.setIfInBounds_toArray, List.set_cons_zero, List.set_cons_succ])
        refine wpQuiet_take (.bool true) (by kernel_rfl) (fun w' hw' => ?_) ?_
        · go_simp
        (try simp only [Act.put, List.setIfInBounds_toArray, List.set_cons_zero, List.set_cons_succ])
        refine wpQuiet_take (.int .i64 1) (by kernel_rfl) (fun w' hw' => ?_) ?_
        · go_simp
        (try simp only [Act.put, List.setIfInBounds_toArray, List.set_cons_zero, List.set_cons_succ])
        refine wpQuiet_take (.pointer (some ⟨w.heap.size, 5, none⟩)) (by kernel_rfl) (fun w' hw' => ?_) ?_
        · go_simp
        (try simp only [Act.put, List.setIfInBounds_toArray, List.set_cons_zero, List.set_cons_succ])
        refine wpQuiet_take (.pointer (some ⟨w.heap.size, 6, none⟩)) (by kernel_rfl) (fun w' hw' => ?_) ?_
        · have hix := index_addr1 w' w.heap.size; go_simp
        (try simp only [Act.put, List.setIfInBounds_toArray, List.set_cons_zero, List.set_cons_succ])
        refine wpQuiet_take (.int .i64 x.b) (by kernel_rfl) (fun w' hw' => ?_) ?_
        · have hc := (S.out.call hw').ino.cell 6 _ rfl; go_simp
        (try simp only [Act.put, List.setIfInBounds_toArray, List.set_cons_zero, List.set_cons_succ])
        refine wpQuiet_row rplanT (vs := rplanL p i D) rfl (.tmp 3) rfl rfl (by kernel_rfl) (fun w' hw' => (S.out.call hw').plan) ?_
        (try simp only [Act.put, List.setIfInBounds_toArray, List.set_cons_zero, List.set_cons_succ])
        refine wpQuiet_call 20 #[.int .i64 x.b, .agg #[.int .i64 p, .int .i64 i, .int .i64 D]] (.bool b2) (by kernel_rfl) (fun w' => by go_simp; rfl) (fun w' hw' => (HQ.out w').mono fun e w'' h => ⟨h.1, hw'.trans (h.2.mono hw'.size)⟩) ?_
        (try simp only [Act.put, List.setIfInBounds_toArray, List.set_cons_zero, List.set_cons_succ])
        refine wpQuiet_take (.bool b2) (by kernel_rfl) (fun w' hw' => ?_) ?_
        · go_simp
        (try simp only [Act.put, List.setIfInBounds_toArray, List.set_cons_zero, List.set_cons_succ])
        refine wpQuiet_take (.bool b2) (by kernel_rfl) (fun w' hw' => ?_) ?_
        · go_simp
        (try simp only [Act.put, List.setIfInBounds_toArray, List.set_cons_zero, List.set_cons_succ])
        refine wpQuiet_nil ?_
        intro w11 hw11
        replace S := Lib.hid (S.out.call hw11)
        go_wp2
        go_roundw
        case rel => exact ⟨2, b2, by omega, rfl, rfl, Lib.hid (HE2.out.trans HB2.out.symm), S.out⟩
        case measure => simp [intOf]
    · cases b with
      | false =>
        have HB2 : Hid (false = okB p i x 3) := Lib.hid (okB_no p i x 2 HB.out.symm).symm
        clear HB HC HN HP
        go_wp2
        go_quiet (fail)
        go_wp2
        go_roundw
        case rel => exact ⟨3, false, by omega, rfl, rfl, HB2, S.out.call (below_drewN _ _ _)⟩
        case measure => simp [intOf]
      | true =>
        have HB2 := Lib.hid (okB_yes p i x 2 HB.out.symm)
        have HQ := Lib.hid (fun w => HP.out x.c w)
        obtain ⟨b2, HE2⟩ : ∃ b, Hid (b = Ii.numB p i x.c) := ⟨_, Lib.hid rfl⟩
        rw [← HE2.out] at HQ
        clear HB HC HN HP
        go_wp2_with fail
        refine wp_region_class (C := fun w' => Below wr.heap.size wr w') (by kernel_rfl) ⟨rfl, rfl, rfl, Nat.le_refl _, fun _ _ => rfl⟩ ?_
        refine wpQuiet_take (.bool true) (by kernel_rfl) (fun w' hw' => ?_) ?_
        · go_simp
        (try simp only [Act.put, List.setIfInBounds_toArray, List.set_cons_zero, List.set_cons_succ])
        refine wpQuiet_take (.bool true) (by kernel_rfl) (fun w' hw' => ?_) ?_
        · go_simp
        (try simp only [Act.put, List.setIfInBounds_toArray, List.set_cons_zero, List.set_cons_succ])
        refine wpQuiet_take (.int .i64 2) (by kernel_rfl) (fun w' hw' => ?_) ?_
        · go_simp
        (try simp only [Act.put, List.setIfInBounds_toArray, List.set_cons_zero, List.set_cons_succ])
        refine wpQuiet_take (.pointer (some ⟨w.heap.size, 5, none⟩)) (by kernel_rfl) (fun w' hw' => ?_) ?_
        · go_simp
        (try simp only [Act.put, List.setIfInBounds_toArray, List.set_cons_zero, List.set_cons_succ])
        refine wpQuiet_take (.pointer (some ⟨w.heap.size, 7, none⟩)) (by kernel_rfl) (fun w' hw' => ?_) ?_
        · have hix := index_addr2 w' w.heap.size; go_simp
        (try simp only [Act.put, List.setIfInBounds_toArray, List.set_cons_zero, List.set_cons_succ])
        refine wpQuiet_take (.int .i64 x.c) (by kernel_rfl) (fun w' hw' => ?_) ?_
        · have hc := (S.out.call hw').ino.cell 7 _ rfl; go_simp
        (try simp only [Act.put, List.setIfInBounds_toArray, List.set_cons_zero, List.set_cons_succ])
        refine wpQuiet_row rplanT (vs := rplanL p i D) rfl (.tmp 3) rfl rfl (by kernel_rfl) (fun w' hw' => (S.out.call hw').plan) ?_
        (try simp only [Act.put, List.setIfInBounds_toArray, List.set_cons_zero, List.set_cons_succ])
        refine wpQuiet_call 20 #[.int .i64 x.c, .agg #[.int .i64 p, .int .i64 i, .int .i64 D]] (.bool b2) (by kernel_rfl) (fun w' => by go_simp; rfl) (fun w' hw' => (HQ.out w').mono fun e w'' h => ⟨h.1, hw'.trans (h.2.mono hw'.size)⟩) ?_
        (try simp only [Act.put, List.setIfInBounds_toArray, List.set_cons_zero, List.set_cons_succ])
        refine wpQuiet_take (.bool b2) (by kernel_rfl) (fun w' hw' => ?_) ?_
        · go_simp
        (try simp only [Act.put, List.setIfInBounds_toArray, List.set_cons_zero, List.set_cons_succ])
        refine wpQuiet_take (.bool b2) (by kernel_rfl) (fun w' hw' => ?_) ?_
        · go_simp
        (try simp only [Act.put, List.setIfInBounds_toArray, List.set_cons_zero, List.set_cons_succ])
        refine wpQuiet_nil ?_
        intro w11 hw11
        replace S := Lib.hid (S.out.call hw11)
        go_wp2
        go_roundw
        case rel => exact ⟨3, b2, by omega, rfl, rfl, Lib.hid (HE2.out.trans HB2.out.symm), S.out⟩
        case measure => simp [intOf]
    · cases b with
      | false =>
        have HB2 : Hid (false = okB p i x 4) := Lib.hid (okB_no p i x 3 HB.out.symm).symm
        clear HB HC HN HP
        go_wp2
        go_quiet (fail)
        go_wp2
        go_roundw
        case rel => exact ⟨4, false, by omega, rfl, rfl, HB2, S.out.call (below_drewN _ _ _)⟩
        case measure => simp [intOf]
      | true =>
        have HB2 := Lib.hid (okB_yes p i x 3 HB.out.symm)
        have HQ := Lib.hid (fun w => HP.out x.d w)
        obtain ⟨b2, HE2⟩ : ∃ b, Hid (b = Ii.numB p i x.d) := ⟨_, Lib.hid rfl⟩
        rw [← HE2.out] at HQ
        clear HB HC HN HP
        go_wp2_with fail
        refine wp_region_class (C := fun w' => Below wr.heap.size wr w') (by kernel_rfl) ⟨rfl, rfl, rfl, Nat.le_refl _, fun _ _ => rfl⟩ ?_
        refine wpQuiet_take (.bool true) (by kernel_rfl) (fun w' hw' => ?_) ?_
        · go_simp
        (try simp only [Act.put, List.setIfInBounds_toArray, List.set_cons_zero, List.set_cons_succ])
        refine wpQuiet_take (.bool true) (by kernel_rfl) (fun w' hw' => ?_) ?_
        · go_simp
        (try simp only [Act.put, List.setIfInBounds_toArray, List.set_cons_zero, List.set_cons_succ])
        refine wpQuiet_take (.int .i64 3) (by kernel_rfl) (fun w' hw' => ?_) ?_
        · go_simp
        (try simp only [Act.put, List.setIfInBounds_toArray, List.set_cons_zero, List.set_cons_succ])
        refine wpQuiet_take (.pointer (some ⟨w.heap.size, 5, none⟩)) (by kernel_rfl) (fun w' hw' => ?_) ?_
        · go_simp
        (try simp only [Act.put, List.setIfInBounds_toArray, List.set_cons_zero, List.set_cons_succ])
        refine wpQuiet_take (.pointer (some ⟨w.heap.size, 8, none⟩)) (by kernel_rfl) (fun w' hw' => ?_) ?_
        · have hix := index_addr3 w' w.heap.size; go_simp
        (try simp only [Act.put, List.setIfInBounds_toArray, List.set_cons_zero, List.set_cons_succ])
        refine wpQuiet_take (.int .i64 x.d) (by kernel_rfl) (fun w' hw' => ?_) ?_
        · have hc := (S.out.call hw').ino.cell 8 _ rfl; go_simp
        (try simp only [Act.put, List.setIfInBounds_toArray, List.set_cons_zero, List.set_cons_succ])
        refine wpQuiet_row rplanT (vs := rplanL p i D) rfl (.tmp 3) rfl rfl (by kernel_rfl) (fun w' hw' => (S.out.call hw').plan) ?_
        (try simp only [Act.put, List.setIfInBounds_toArray, List.set_cons_zero, List.set_cons_succ])
        refine wpQuiet_call 20 #[.int .i64 x.d, .agg #[.int .i64 p, .int .i64 i, .int .i64 D]] (.bool b2) (by kernel_rfl) (fun w' => by go_simp; rfl) (fun w' hw' => (HQ.out w').mono fun e w'' h => ⟨h.1, hw'.trans (h.2.mono hw'.size)⟩) ?_
        (try simp only [Act.put, List.setIfInBounds_toArray, List.set_cons_zero, List.set_cons_succ])
        refine wpQuiet_take (.bool b2) (by kernel_rfl) (fun w' hw' => ?_) ?_
        · go_simp
        (try simp only [Act.put, List.setIfInBounds_toArray, List.set_cons_zero, List.set_cons_succ])
        refine wpQuiet_take (.bool b2) (by kernel_rfl) (fun w' hw' => ?_) ?_
        · go_simp
        (try simp only [Act.put, List.setIfInBounds_toArray, List.set_cons_zero, List.set_cons_succ])
        refine wpQuiet_nil ?_
        intro w11 hw11
        replace S := Lib.hid (S.out.call hw11)
        go_wp2
        go_roundw
        case rel => exact ⟨4, b2, by omega, rfl, rfl, Lib.hid (HE2.out.trans HB2.out.symm), S.out⟩
        case measure => simp [intOf]
    · rw [← HN.out] at HB
      rw [← HB.out] at HC
      clear HN HB HP
      have c0 := S.out.ino.cell 0 _ rfl
      have c1 := S.out.ino.cell 1 _ rfl
      have c2 := S.out.ino.cell 2 _ rfl
      have c3 := S.out.ino.cell 3 _ rfl
      have c4 := S.out.ino.cell 4 _ rfl
      cases b with
      | false =>
        have HE : Hid (R = false) := Lib.hid (by rw [HC.out, Bool.false_and])
        clear HC
        go_wp2
        go_ret
        exact ⟨by rw [HE.out]; rfl, S.out.below⟩
      | true =>
        rw [Bool.true_and] at HC
        cases d0 : decide (1 ≤ x.k) with
        | false =>
          have HE : Hid (R = false) := Lib.hid (by rw [HC.out, d0]; rfl)
          clear HC
          go_wp2
          go_ret
          exact ⟨by rw [HE.out]; rfl, S.out.below⟩
        | true =>
          rw [d0, Bool.true_and] at HC
          cases d1 : decide (x.k ≤ 3) with
          | false =>
            have HE : Hid (R = false) := Lib.hid (by rw [HC.out, d1]; rfl)
            clear HC
            go_wp2
            go_ret
            exact ⟨by rw [HE.out]; rfl, S.out.below⟩
          | true =>
            rw [d1, Bool.true_and] at HC
            cases d2 : decide (0 ≤ x.p) with
            | false =>
              have HE : Hid (R = false) := Lib.hid (by rw [HC.out, d2]; rfl)
              clear HC
              go_wp2
              go_ret
              exact ⟨by rw [HE.out]; rfl, S.out.below⟩
            | true =>
              rw [d2, Bool.true_and] at HC
              cases d3 : decide (x.p ≤ 511) with
              | false =>
                have HE : Hid (R = false) := Lib.hid (by rw [HC.out, d3]; rfl)
                clear HC
                go_wp2
                go_ret
                exact ⟨by rw [HE.out]; rfl, S.out.below⟩
              | true =>
                rw [d3, Bool.true_and] at HC
                cases d4 : decide (0 ≤ x.u) with
                | false =>
                  have HE : Hid (R = false) := Lib.hid (by rw [HC.out, d4]; rfl)
                  clear HC
                  go_wp2
                  go_ret
                  exact ⟨by rw [HE.out]; rfl, S.out.below⟩
                | true =>
                  rw [d4, Bool.true_and] at HC
                  cases d5 : decide (x.u ≤ 65535) with
                  | false =>
                    have HE : Hid (R = false) := Lib.hid (by rw [HC.out, d5]; rfl)
                    clear HC
                    go_wp2
                    go_ret
                    exact ⟨by rw [HE.out]; rfl, S.out.below⟩
                  | true =>
                    rw [d5, Bool.true_and] at HC
                    cases d6 : decide (0 ≤ x.l) with
                    | false =>
                      have HE : Hid (R = false) := Lib.hid (by rw [HC.out, d6]; rfl)
                      clear HC
                      go_wp2
                      go_ret
                      exact ⟨by rw [HE.out]; rfl, S.out.below⟩
                    | true =>
                      rw [d6, Bool.true_and] at HC
                      cases d7 : decide (x.l ≤ 40) with
                      | false =>
                        have HE : Hid (R = false) := Lib.hid (by rw [HC.out, d7]; rfl)
                        clear HC
                        go_wp2
                        go_ret
                        exact ⟨by rw [HE.out]; rfl, S.out.below⟩
                      | true =>
                        rw [d7, Bool.true_and] at HC
                        cases d8 : decide (0 ≤ x.s) with
                        | false =>
                          have HE : Hid (R = false) := Lib.hid (by rw [HC.out, d8]; rfl)
                          clear HC
                          go_wp2
                          go_ret
                          exact ⟨by rw [HE.out]; rfl, S.out.below⟩
                        | true =>
                          rw [d8, Bool.true_and] at HC
                          go_wp2
                          go_ret
                          exact ⟨by rw [HC.out]; rfl, S.out.below⟩
theorem rright_any (p i : Int) (x : Ino) (w : World) :
    Calls Try.prog 12 #[inoV x, rplanV p i (Pl.dataN i)] w fun e w' => e = .returned (.bool (Ii.inB p i x)) ∧ Below w.heap.size w w' := by
  by_cases hk : x.k = 0
  · have := rright_zero p i x w hk
    unfold Ii.inB
    rw [if_pos hk]
    exact this
  · cases he : Ii.numB p i x.e with
    | true => exact rright_some p i x w hk he
    | false =>
      have := rright_ind p i x w hk he
      rw [inB_chain p i x hk]
      unfold Ii.numsB
      rw [he, Bool.and_false, Bool.false_and, Bool.false_and]
      exact this
end Go.Proofs.Ytchlhnpnenafnaa
