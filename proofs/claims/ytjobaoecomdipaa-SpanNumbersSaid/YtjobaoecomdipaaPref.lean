/-
  The contracts of the document's own In, Get, Set, Text and SetText.
-/
import Derived.Test.YtjobaoecomdipaaPset
namespace Go.Proofs.Ytjobaoecomdipaa
open Go.RowKit

set_option maxHeartbeats 400000 in
theorem in_any (a n : Int) (w : World) :
    Calls Try.prog 22 #[.int .i64 a, .int .i64 n] w fun e w' => e = .returned (.bool (Pg.insB a n)) ∧ w = w' := by
  by_cases c1 : 0 ≤ a ∧ a ≤ 64 ∧ 0 ≤ n ∧ n ≤ 64
  · obtain ⟨c1, c2, c3, c4⟩ := c1
    go_enter Try.func22, Try.ntmps22
    go_wp2
    go_ret
    exact ⟨ret_bool (by unfold Pg.insB; rw [decide_eq_decide]; omega), rfl⟩
  · have HF : Hid (Pg.insB a n = false) := Lib.hid (by unfold Pg.insB; rw [decide_eq_false_iff_not]; omega)
    have hc : a < 0 ∨ (0 ≤ a ∧ 64 < a) ∨ (0 ≤ a ∧ a ≤ 64 ∧ n < 0) ∨ (0 ≤ a ∧ a ≤ 64 ∧ 0 ≤ n ∧ 64 < n) := by omega
    clear c1
    rcases hc with c1 | ⟨c1, c2⟩ | ⟨c1, c2, c3⟩ | ⟨c1, c2, c3, c4⟩
    all_goals
      go_enter Try.func22, Try.ntmps22
      go_wp2
      go_ret
      exact ⟨ret_bool HF.out.symm, rfl⟩
theorem in_yes (a n : Int) (w : World) (h : Pg.insB a n = true) :
    Calls Try.prog 22 #[.int .i64 a, .int .i64 n] w fun e w' => e = .returned (.bool true) ∧ w = w' := h ▸ in_any a n w
theorem in_no (a n : Int) (w : World) (h : Pg.insB a n = false) :
    Calls Try.prog 22 #[.int .i64 a, .int .i64 n] w fun e w' => e = .returned (.bool false) ∧ w = w' := h ▸ in_any a n w

/-! ### Get -/
set_option maxHeartbeats 1000000 in
theorem refGet_yes (p : List UInt8) (a n : Nat) (w : World) (hp : p.length = 64) (h1 : 1 ≤ n) (h2 : n ≤ 4) (h3 : a + n ≤ 64) :
    Calls Try.prog 16 #[pageV p, .int .i64 (a : Int), .int .i64 (n : Int)] w fun e w' => e = .returned (.int .i64 (Pg.numOf ((p.drop a).take n))) ∧ Below w.heap.size w w' := by
  have HP := Lib.hid (pageAt_new w p 39 hp)
  have HL : Hid (((p.drop a).take n).length = n) := Lib.hid (by simp [hp]; omega)
  have HB : Hid (Below w.heap.size w (w.alloc (.cells (byteVals p).toArray 39))) := Lib.hid ((Below.refl _ _).alloc (Nat.le_refl _) _)
  have HN : Hid (Pg.insB (a : Int) (n : Int) = true) := Lib.hid (Pg.ins_mk (by omega) (by omega) (by omega))
  have HG : Hid (∀ k, k < n → ((p.drop a).take n).getD k 0 = p.getD (a + k) 0) := Lib.hid (fun k hk => by
    rw [List.getD_eq_getElem?_getD, List.getD_eq_getElem?_getD, List.getElem?_take, if_pos hk, List.getElem?_drop])
  clear hp
  generalize (p.drop a).take n = l at HL HG ⊢
  unfold pageV
  have g1 : ¬ (n : Int) < 1 := by omega
  have g2 : ¬ (4 : Int) < (n : Int) := by omega
  go_enter Try.func16, Try.ntmps16
  go_wp2_with (go_at_call 22; refine (in_yes _ _ _ HN.out).mono ?_; rintro e w' ⟨rfl, rfl⟩)
  clear g1 g2
  generalize w.alloc (.cells (byteVals p).toArray 39) = w1 at HP HB ⊢
  go_loop [7, 8] (fun x i => ∃ k : Nat, k ≤ n ∧ i = .int .i64 k ∧ x = .int .i64 (Pg.numOf (l.take k))) (fun _ i => n - (intOf i).toNat)
  case atStart => exact ⟨0, Nat.zero_le _, rfl, rfl⟩
  case round =>
    obtain ⟨k, hk, rfl, rfl⟩ := hrel
    by_cases hlt : k < n
    · have HT : Hid (Pg.numOf (l.take (k + 1)) = Pg.numOf (l.take k) * 256 + ((p.getD (a + k) 0).toNat : Int)) := Lib.hid (by
        rw [take_one l 0 k (by rw [HL.out]; exact hlt), Pg.numOf_snoc, HG.out k hlt])
      have hidx : (a : Int) + (k : Int) = ((a + k : Nat) : Int) := by omega
      have hc := HP.out.cell (a + k) (by omega)
      obtain ⟨r1, r2⟩ := Pg.numOf_small (l.take k) (by simp; omega)
      have hb := (p.getD (a + k) 0).toNat_lt
      have h64 : a + k < 64 := by omega
      generalize p.getD (a + k) 0 = c at hc HT hb
      generalize Pg.numOf (l.take k) = x at r1 r2 HT ⊢
      generalize a + k = j at hidx hc h64
      go_wp2
      go_round
      case rel => exact ⟨k + 1, by omega, by go_num, by rw [HT.out]⟩
      case measure => simp [intOf]; omega
    · have HK : Hid (l.take k = l) := Lib.hid (List.take_of_length_le (by rw [HL.out]; omega))
      go_wp2
      go_ret
      exact ⟨ret_int (by rw [HK.out]), HB.out⟩

set_option maxHeartbeats 400000 in
theorem refGet_no (p : List UInt8) (a n : Int) (w : World) (h : Pg.numB a n = false) :
    Calls Try.prog 16 #[pageV p, .int .i64 a, .int .i64 n] w fun e w' => e = .returned (.int .i64 0) ∧ Below w.heap.size w w' := by
  have hn := Pg.num_no h
  clear h
  unfold pageV
  by_cases c1 : n < 1
  · clear hn
    go_enter Try.func16, Try.ntmps16
    go_wp2
    go_ret
    exact ⟨rfl, (Below.refl _ _).alloc (Nat.le_refl _) _⟩
  · by_cases c2 : 4 < n
    · clear hn
      go_enter Try.func16, Try.ntmps16
      go_wp2
      go_ret
      exact ⟨rfl, (Below.refl _ _).alloc (Nat.le_refl _) _⟩
    · have HI : Hid (Pg.insB a n = false) := Lib.hid (by unfold Pg.insB; rw [decide_eq_false_iff_not]; omega)
      clear hn
      go_enter Try.func16, Try.ntmps16
      go_wp2_with (go_at_call 22; refine (in_no _ _ _ HI.out).mono ?_; rintro e w' ⟨rfl, rfl⟩)
      go_ret
      exact ⟨rfl, (Below.refl _ _).alloc (Nat.le_refl _) _⟩

theorem refGet_any (p : List UInt8) (a n : Int) (w : World) (hp : p.length = 64) :
    Calls Try.prog 16 #[pageV p, .int .i64 a, .int .i64 n] w fun e w' => e = .returned (.int .i64 (Pg.getN p a n)) ∧ Below w.heap.size w w' := by
  by_cases h : Pg.numB a n = true
  · obtain ⟨c1, c2, c3, c4⟩ := Pg.num_yes h
    obtain ⟨A, rfl⟩ := Int.eq_ofNat_of_zero_le c3
    obtain ⟨N, rfl⟩ := Int.eq_ofNat_of_zero_le (show 0 ≤ n by omega)
    have := refGet_yes p A N w hp (by omega) (by omega) (by omega)
    unfold Pg.getN
    rw [if_pos h]
    exact this
  · have := refGet_no p a n w (by simpa using h)
    unfold Pg.getN
    rw [if_neg h]
    exact this

/-! ### Set -/
theorem byte_ref (v : Int) (k : Nat) (hk : k < 4) : v % 18446744073709551616 / 256 ^ k % 256 = ((Pg.byteAt k v).toNat : Int) := by
  rw [Pg.byteAt_nat]
  have : k = 0 ∨ k = 1 ∨ k = 2 ∨ k = 3 := by omega
  rcases this with rfl | rfl | rfl | rfl <;> omega
theorem quo_ref (u : Int) (k : Nat) : u / 256 ^ k / 256 = u / 256 ^ (k + 1) := by
  rw [Int.pow_succ, ← Int.ediv_ediv_of_nonneg (Int.le_of_lt (Int.pow_pos (by omega)))]
theorem wrap_u64_mod (v : Int) : IntKind.u64.wrap v = v % 18446744073709551616 := by simp [IntKind.wrap, IntKind.bits, IntKind.signed]
set_option maxHeartbeats 1000000 in
theorem refSet_yes (p : List UInt8) (a n : Nat) (v : Int) (w : World) (hp : p.length = 64) (h1 : 1 ≤ n) (h2 : n ≤ 4) (h3 : a + n ≤ 64) :
    Calls Try.prog 19 #[pageV p, .int .i64 (a : Int), .int .i64 (n : Int), .int .i64 v] w fun e w' => e = .returned (pageV (Pg.over p a (Pg.bytesN n v))) ∧ Below w.heap.size w w' := by
  have HS := Lib.hid (set_start w p hp)
  have HL := Lib.hid hp
  have HN : Hid (Pg.insB (a : Int) (n : Int) = true) := Lib.hid (Pg.ins_mk (by omega) (by omega) (by omega))
  clear hp
  unfold pageV
  have g1 : ¬ (n : Int) < 1 := by omega
  have g2 : ¬ (4 : Int) < (n : Int) := by omega
  go_enter Try.func19, Try.ntmps19
  go_wp2_with (go_at_call 22; refine (in_yes _ _ _ HN.out).mono ?_; rintro e w' ⟨rfl, rfl⟩)
  clear g1 g2
  rw [← zeroCells_def]
  generalize (w.alloc (.cells (byteVals p).toArray 39)).alloc (.cells zeroCells 39) = w1 at HS ⊢
  have HU : Hid (∀ k, k < 4 → IntKind.u64.wrap v / 256 ^ k % 256 = ((Pg.byteAt k v).toNat : Int)) := Lib.hid (fun k hk => by rw [wrap_u64_mod]; exact byte_ref v k hk)
  have hu0 : 0 ≤ IntKind.u64.wrap v := by rw [wrap_u64_mod]; omega
  have hu1 : IntKind.u64.wrap v < 18446744073709551616 := by rw [wrap_u64_mod]; omega
  generalize IntKind.u64.wrap v = U at HU hu0 hu1 ⊢
  go_loopw [9, 10] (fun u i wr => ∃ k : Nat, k ≤ n ∧ i = .int .i64 ((n : Int) - 1 - (k : Int)) ∧ u = .int .u64 (U / 256 ^ k) ∧ PageAt wr w.heap.size (Pg.over p (a + n - k) (Pg.bytesN k v)) ∧ PageAt wr (w.heap.size + 1) zeros ∧ Below w.heap.size w wr) (fun _ i _ => (intOf i + 1).toNat)
  case atStart => exact ⟨0, Nat.zero_le _, by simp, by simp, by rw [Pg.bytesN, Pg.over_nil]; exact HS.out.1, HS.out.2.1, HS.out.2.2⟩
  case round =>
    obtain ⟨k, hk, rfl, rfl, hp1, hp2, hbel⟩ := hrel
    by_cases hlt : k < n
    · obtain ⟨i, hi⟩ : ∃ i, n = i + 1 + k := ⟨n - 1 - k, by omega⟩
      obtain ⟨j, hj⟩ : ∃ j, j = a + i := ⟨a + i, rfl⟩
      have hi' : (n : Int) - 1 - (k : Int) = (i : Int) := by omega
      have hidx : (a : Int) + (i : Int) = (j : Int) := by omega
      have hc := hp1.cell j (by omega)
      have hf := hp1.frozen j (by omega)
      have hj64 : j < 64 := by omega
      have HJ : Hid (a + n = j + 1 + k) := Lib.hid (by omega)
      have HI := Lib.hid hi
      have HP1 := Lib.hid hp1
      have HB := Lib.hid (HU.out k (by omega))
      have HQ := Lib.hid (quo_ref U k)
      have hx0 : 0 ≤ U / 256 ^ k := Int.ediv_nonneg hu0 (Int.le_of_lt (Int.pow_pos (by omega)))
      have hx1 : U / 256 ^ k < 18446744073709551616 := Int.lt_of_le_of_lt (Int.ediv_le_self _ hu0) hu1
      have hi0 : 0 ≤ (i : Int) := by omega
      rw [hi']
      clear hp1 hj hi hi'
      generalize U / 256 ^ k = x at HB HQ hx0 hx1 ⊢
      go_wp2
      go_roundw
      case rel =>
        refine ⟨k + 1, by omega, ?_, by rw [← HQ.out], ?_, ?_, ?_⟩
        · have := HI.out; congr 1; omega
        · rw [HB.out, show a + n - (k + 1) = j by have := HJ.out; omega]
          refine PageAt.number HL.out ?_ (by have := HJ.out; omega)
          rw [show j + 1 = a + n - k by have := HJ.out; omega]
          exact HP1.out
        · exact hp2.set_other _ _ _ (by omega)
        · exact hbel.setCell (Nat.le_refl _) _
      case measure => simp [intOf]
    · obtain rfl : k = n := by omega
      have HP1 := Lib.hid hp1
      clear hp1
      have HQ : Hid ((Pg.over p (a + k - k) (Pg.bytesN k v)) = Pg.over p a (Pg.bytesN k v)) := Lib.hid (by rw [Nat.add_sub_cancel])
      rw [HQ.out] at HP1
      clear HQ
      have HQ := Lib.hid HP1.out.len
      have hi' : (k : Int) - 1 - (k : Int) = -1 := by omega
      rw [hi']
      clear hi'
      go_wp2_with (first
        | (with_reducible refine wpList_load_page HP1.out rfl (.tmp 4) rfl rfl ?_)
        | (with_reducible refine wpList_store_page hp2 HQ.out rfl (.tmp 8) (.tmp 41) rfl rfl rfl ?_))
      exact bodyPost_ret (results_page _ 8 rfl _ (hp2.put _ HQ.out) rfl) rfl ⟨rfl, below_setCells _ (by omega) _ _ _ hbel⟩


set_option maxHeartbeats 1000000 in
theorem refSet_no (p : List UInt8) (a n v : Int) (w : World) (hp : p.length = 64) (h : Pg.numB a n = false) :
    Calls Try.prog 19 #[pageV p, .int .i64 a, .int .i64 n, .int .i64 v] w fun e w' => e = .returned (pageV p) ∧ Below w.heap.size w w' := by
  have hn := Pg.num_no h
  clear h
  have hs := set_start w p hp
  rw [zeroCells_def] at hs
  have HS := Lib.hid hs; clear hs
  have HL := Lib.hid hp; clear hp
  unfold pageV
  have hcase : n < 1 ∨ (¬ n < 1 ∧ 4 < n) ∨ (¬ n < 1 ∧ ¬ 4 < n ∧ Hid (Pg.insB a n = false)) := by
    by_cases c1 : n < 1
    · exact Or.inl c1
    · by_cases c2 : 4 < n
      · exact Or.inr (Or.inl ⟨c1, c2⟩)
      · exact Or.inr (Or.inr ⟨c1, c2, Lib.hid (by unfold Pg.insB; rw [decide_eq_false_iff_not]; omega)⟩)
  clear hn
  rcases hcase with c1 | ⟨c1, c2⟩ | ⟨c1, c2, HI⟩
  all_goals
    go_enter Try.func19, Try.ntmps19
    go_wp2_with (first
      | (go_at_call 22; refine (in_no _ _ _ HI.out).mono ?_; rintro e w' ⟨rfl, rfl⟩)
      | (with_reducible refine wpList_load_page HS.out.1 rfl (.tmp 4) rfl rfl ?_)
      | (with_reducible refine wpList_store_page HS.out.2.1 HL.out rfl (.tmp 8) (.tmp 23) rfl rfl rfl ?_))
    exact bodyPost_ret (results_page _ 8 rfl _ (HS.out.2.1.put _ HL.out) rfl) rfl ⟨rfl, below_setCells _ (by omega) _ _ _ HS.out.2.2⟩

theorem refSet_any (p : List UInt8) (a n v : Int) (w : World) (hp : p.length = 64) :
    Calls Try.prog 19 #[pageV p, .int .i64 a, .int .i64 n, .int .i64 v] w fun e w' => e = .returned (pageV (Pg.setN p a n v)) ∧ Below w.heap.size w w' := by
  by_cases h : Pg.numB a n = true
  · obtain ⟨c1, c2, c3, c4⟩ := Pg.num_yes h
    obtain ⟨A, rfl⟩ := Int.eq_ofNat_of_zero_le c3
    obtain ⟨N, rfl⟩ := Int.eq_ofNat_of_zero_le (show 0 ≤ n by omega)
    have := refSet_yes p A N v w hp (by omega) (by omega) (by omega)
    unfold Pg.setN
    rw [if_pos h]
    exact this
  · have := refSet_no p a n v w hp (by simpa using h)
    unfold Pg.setN
    rw [if_neg h]
    exact this
end Go.Proofs.Ytjobaoecomdipaa
