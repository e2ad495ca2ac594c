/-
  The contract of the document's own More.
-/
import Derived.Test.YtppbiohjhnoagaaGreatMma
import Derived.Test.YtppbiohjhnoagaaGreatMpa
import Derived.Test.YtppbiohjhnoagaaGreatMhb
namespace Go.Proofs.YtppbiohjhnoagaaGreat
open Go.RowKit
open Dk (zeros zeros_length)

set_option maxRecDepth 100000 in
set_option maxHeartbeats 400000 in
theorem ref_any (x : Int) (s : ByteArray) (w : World) (h0 : 0 ≤ x) (h1 : x < 4294967296) (hs : s.size ≤ maxLen) :
    Calls Tryz.prog 73 #[.int .u32 x, .string s] w fun e w' => e = .returned (.int .u32 (Mt.joinN (Mt.run (Mt.splitN x) s.data.toList))) ∧ w = w' := by
  unfold maxLen at hs
  have hf := Mt.fit_split x
  go_enter Tryz.func73, Tryz.ntmps73
  go_wp2
  go_loop [5, 6, 7] (fun a b i => ∃ k : Nat, k ≤ s.size ∧ i = .int .i64 k ∧ a = .int .i64 (Mt.run (Mt.splitN x) (s.data.toList.take k)).1 ∧ b = .int .i64 (Mt.run (Mt.splitN x) (s.data.toList.take k)).2) (fun _ _ i => s.size - (intOf i).toNat)
  case atStart => exact ⟨0, Nat.zero_le _, rfl, rfl, rfl⟩
  case round =>
    obtain ⟨k, hk, rfl, rfl, rfl⟩ := hrel
    have hr := Mt.fit_run (Mt.splitN x) (s.data.toList.take k) hf
    obtain ⟨r1, r2, r3, r4⟩ := hr
    by_cases hlt : k < s.size
    · have HS : Hid (Mt.run (Mt.splitN x) (s.data.toList.take (k + 1)) = Mt.step (Mt.run (Mt.splitN x) (s.data.toList.take k)) s[k]) := Lib.hid (by rw [take_snoc s k hlt, Mt.run_snoc])
      have hc := s[k].toNat_lt
      go_wp2
      go_round
      case rel => exact ⟨k + 1, by omega, by go_num, by rw [HS.out]; rfl, by rw [HS.out]; rfl⟩
      case measure => simp [intOf]; omega
    · have HK : Hid (s.data.toList.take k = s.data.toList) := Lib.hid (List.take_of_length_le (by simp; omega))
      go_wp2
      go_ret
      exact ⟨ret_int (by rw [HK.out]; rfl), rfl⟩
end Go.Proofs.YtppbiohjhnoagaaGreat

/-
  The contracts of the document's own In, Get, Set and Text.
-/
namespace Go.Proofs.YtppbiohjhnoagaaGreat
open Go.RowKit
open Dk (zeros zeros_length)

set_option maxRecDepth 100000 in
set_option maxHeartbeats 400000 in
theorem in_any (a n : Int) (w : World) :
    Calls Tryz.prog 71 #[.int .i64 a, .int .i64 n] w fun e w' => e = .returned (.bool (Pg.insB a n)) ∧ w = w' := by
  by_cases c1 : 0 ≤ a ∧ a ≤ 64 ∧ 0 ≤ n ∧ n ≤ 64
  · obtain ⟨c1, c2, c3, c4⟩ := c1
    go_enter Tryz.func71, Tryz.ntmps71
    go_wp2
    go_ret
    exact ⟨ret_bool (by unfold Pg.insB; rw [decide_eq_decide]; omega), rfl⟩
  · have HF : Hid (Pg.insB a n = false) := Lib.hid (by unfold Pg.insB; rw [decide_eq_false_iff_not]; omega)
    have hc : a < 0 ∨ (0 ≤ a ∧ 64 < a) ∨ (0 ≤ a ∧ a ≤ 64 ∧ n < 0) ∨ (0 ≤ a ∧ a ≤ 64 ∧ 0 ≤ n ∧ 64 < n) := by omega
    clear c1
    rcases hc with c1 | ⟨c1, c2⟩ | ⟨c1, c2, c3⟩ | ⟨c1, c2, c3, c4⟩
    all_goals
      go_enter Tryz.func71, Tryz.ntmps71
      go_wp2
      go_ret
      exact ⟨ret_bool HF.out.symm, rfl⟩
set_option maxRecDepth 100000 in
theorem in_yes (a n : Int) (w : World) (h : Pg.insB a n = true) :
    Calls Tryz.prog 71 #[.int .i64 a, .int .i64 n] w fun e w' => e = .returned (.bool true) ∧ w = w' := h ▸ in_any a n w
set_option maxRecDepth 100000 in
theorem in_no (a n : Int) (w : World) (h : Pg.insB a n = false) :
    Calls Tryz.prog 71 #[.int .i64 a, .int .i64 n] w fun e w' => e = .returned (.bool false) ∧ w = w' := h ▸ in_any a n w

/-! ### Get -/
set_option maxRecDepth 100000 in
set_option maxHeartbeats 1000000 in
theorem refGet_yes (p : List UInt8) (a n : Nat) (w : World) (hp : p.length = 64) (h1 : 1 ≤ n) (h2 : n ≤ 4) (h3 : a + n ≤ 64) :
    Calls Tryz.prog 53 #[pageV p, .int .i64 (a : Int), .int .i64 (n : Int)] w fun e w' => e = .returned (.int .i64 (Pg.numOf ((p.drop a).take n))) ∧ Below w.heap.size w w' := by
  have HP := Lib.hid (pageAt_new w p 38 hp)
  have HL : Hid (((p.drop a).take n).length = n) := Lib.hid (by simp [hp]; omega)
  have HB : Hid (Below w.heap.size w (w.alloc (.cells (byteVals p).toArray 38))) := Lib.hid ((Below.refl _ _).alloc (Nat.le_refl _) _)
  have HN : Hid (Pg.insB (a : Int) (n : Int) = true) := Lib.hid (Pg.ins_mk (by omega) (by omega) (by omega))
  have HG : Hid (∀ k, k < n → ((p.drop a).take n).getD k 0 = p.getD (a + k) 0) := Lib.hid (fun k hk => by
    rw [List.getD_eq_getElem?_getD, List.getD_eq_getElem?_getD, List.getElem?_take, if_pos hk, List.getElem?_drop])
  clear hp
  generalize (p.drop a).take n = l at HL HG ⊢
  unfold pageV
  have g1 : ¬ (n : Int) < 1 := by omega
  have g2 : ¬ (4 : Int) < (n : Int) := by omega
  go_enter Tryz.func53, Tryz.ntmps53
  go_wp2_with (go_at_call 71; refine (in_yes _ _ _ HN.out).mono ?_; rintro e w' ⟨rfl, rfl⟩)
  clear g1 g2
  generalize w.alloc (.cells (byteVals p).toArray 38) = w1 at HP HB ⊢
  go_loop [7, 8] (fun x i => ∃ k : Nat, k ≤ n ∧ i = .int .i64 k ∧ x = .int .i64 (Pg.numOf (l.take k))) (fun _ i => n - (intOf i).toNat)
  case atStart => exact ⟨0, Nat.zero_le _, rfl, rfl⟩
  case round =>
    obtain ⟨k, hk, rfl, rfl⟩ := hrel
    by_cases hlt : k < n
    · have HT : Hid (Pg.numOf (l.take (k + 1)) = Pg.numOf (l.take k) * 256 + ((p.getD (a + k) 0).toNat : Int)) := Lib.hid (by
        rw [take_one l 0 k (by rw [HL.out]; exact hlt), Pg.numOf_snoc, HG.out k hlt])
      have hidx : (a : Int) + (k : Int) = ((a + k : Nat) : Int) := by omega
      have hc := HP.out.cell (a + k) (by omega)
      obtain ⟨r1, r2⟩ := Pg.numOf_small (l.take k) (by simp; omega)
      have hb := (p.getD (a + k) 0).toNat_lt
      have h64 : a + k < 64 := by omega
      generalize p.getD (a + k) 0 = c at hc HT hb
      generalize Pg.numOf (l.take k) = x at r1 r2 HT ⊢
      generalize a + k = j at hidx hc h64
      go_wp2
      go_round
      case rel => exact ⟨k + 1, by omega, by go_num, by rw [HT.out]⟩
      case measure => simp [intOf]; omega
    · have HK : Hid (l.take k = l) := Lib.hid (List.take_of_length_le (by rw [HL.out]; omega))
      go_wp2
      go_ret
      exact ⟨ret_int (by rw [HK.out]), HB.out⟩

set_option maxRecDepth 100000 in
set_option maxHeartbeats 400000 in
theorem refGet_no (p : List UInt8) (a n : Int) (w : World) (h : Pg.numB a n = false) :
    Calls Tryz.prog 53 #[pageV p, .int .i64 a, .int .i64 n] w fun e w' => e = .returned (.int .i64 0) ∧ Below w.heap.size w w' := by
  have hn := Pg.num_no h
  clear h
  unfold pageV
  by_cases c1 : n < 1
  · clear hn
    go_enter Tryz.func53, Tryz.ntmps53
    go_wp2
    go_ret
    exact ⟨rfl, (Below.refl _ _).alloc (Nat.le_refl _) _⟩
  · by_cases c2 : 4 < n
    · clear hn
      go_enter Tryz.func53, Tryz.ntmps53
      go_wp2
      go_ret
      exact ⟨rfl, (Below.refl _ _).alloc (Nat.le_refl _) _⟩
    · have HI : Hid (Pg.insB a n = false) := Lib.hid (by unfold Pg.insB; rw [decide_eq_false_iff_not]; omega)
      clear hn
      go_enter Tryz.func53, Tryz.ntmps53
      go_wp2_with (go_at_call 71; refine (in_no _ _ _ HI.out).mono ?_; rintro e w' ⟨rfl, rfl⟩)
      go_ret
      exact ⟨rfl, (Below.refl _ _).alloc (Nat.le_refl _) _⟩

set_option maxRecDepth 100000 in
theorem refGet_any (p : List UInt8) (a n : Int) (w : World) (hp : p.length = 64) :
    Calls Tryz.prog 53 #[pageV p, .int .i64 a, .int .i64 n] w fun e w' => e = .returned (.int .i64 (Pg.getN p a n)) ∧ Below w.heap.size w w' := by
  by_cases h : Pg.numB a n = true
  · obtain ⟨c1, c2, c3, c4⟩ := Pg.num_yes h
    obtain ⟨A, rfl⟩ := Int.eq_ofNat_of_zero_le c3
    obtain ⟨N, rfl⟩ := Int.eq_ofNat_of_zero_le (show 0 ≤ n by omega)
    have := refGet_yes p A N w hp (by omega) (by omega) (by omega)
    unfold Pg.getN
    rw [if_pos h]
    exact this
  · have := refGet_no p a n w (by simpa using h)
    unfold Pg.getN
    rw [if_neg h]
    exact this

/-! ### Set -/
set_option maxRecDepth 100000 in
theorem byte_ref (v : Int) (k : Nat) (hk : k < 4) : v % 18446744073709551616 / 256 ^ k % 256 = ((Pg.byteAt k v).toNat : Int) := by
  rw [Pg.byteAt_nat]
  have : k = 0 ∨ k = 1 ∨ k = 2 ∨ k = 3 := by omega
  rcases this with rfl | rfl | rfl | rfl <;> omega
set_option maxRecDepth 100000 in
theorem quo_ref (u : Int) (k : Nat) : u / 256 ^ k / 256 = u / 256 ^ (k + 1) := by
  rw [Int.pow_succ, ← Int.ediv_ediv_of_nonneg (Int.le_of_lt (Int.pow_pos (by omega)))]
set_option maxRecDepth 100000 in
theorem wrap_u64_mod (v : Int) : IntKind.u64.wrap v = v % 18446744073709551616 := by simp [IntKind.wrap, IntKind.bits, IntKind.signed]
set_option maxRecDepth 100000 in
set_option maxHeartbeats 1000000 in
theorem refSet_yes (p : List UInt8) (a n : Nat) (v : Int) (w : World) (hp : p.length = 64) (h1 : 1 ≤ n) (h2 : n ≤ 4) (h3 : a + n ≤ 64) :
    Calls Tryz.prog 83 #[pageV p, .int .i64 (a : Int), .int .i64 (n : Int), .int .i64 v] w fun e w' => e = .returned (pageV (Pg.over p a (Pg.bytesN n v))) ∧ Below w.heap.size w w' := by
  have HS := Lib.hid (set_start w p hp)
  have HL := Lib.hid hp
  have HN : Hid (Pg.insB (a : Int) (n : Int) = true) := Lib.hid (Pg.ins_mk (by omega) (by omega) (by omega))
  clear hp
  unfold pageV
  have g1 : ¬ (n : Int) < 1 := by omega
  have g2 : ¬ (4 : Int) < (n : Int) := by omega
  go_enter Tryz.func83, Tryz.ntmps83
  go_wp2_with (go_at_call 71; refine (in_yes _ _ _ HN.out).mono ?_; rintro e w' ⟨rfl, rfl⟩)
  clear g1 g2
  rw [← zeroCells_def]
  generalize (w.alloc (.cells (byteVals p).toArray 38)).alloc (.cells zeroCells 38) = w1 at HS ⊢
  have HU : Hid (∀ k, k < 4 → IntKind.u64.wrap v / 256 ^ k % 256 = ((Pg.byteAt k v).toNat : Int)) := Lib.hid (fun k hk => by rw [wrap_u64_mod]; exact byte_ref v k hk)
  have hu0 : 0 ≤ IntKind.u64.wrap v := by rw [wrap_u64_mod]; omega
  have hu1 : IntKind.u64.wrap v < 18446744073709551616 := by rw [wrap_u64_mod]; omega
  generalize IntKind.u64.wrap v = U at HU hu0 hu1 ⊢
  go_loopw [9, 10] (fun u i wr => ∃ k : Nat, k ≤ n ∧ i = .int .i64 ((n : Int) - 1 - (k : Int)) ∧ u = .int .u64 (U / 256 ^ k) ∧ PageAt wr w.heap.size (Pg.over p (a + n - k) (Pg.bytesN k v)) ∧ PageAt wr (w.heap.size + 1) zeros ∧ Below w.heap.size w wr) (fun _ i _ => (intOf i + 1).toNat)
  case atStart => exact ⟨0, Nat.zero_le _, by simp, by simp, by rw [Pg.bytesN, Pg.over_nil]; exact HS.out.1, HS.out.2.1, HS.out.2.2⟩
  case round =>
    obtain ⟨k, hk, rfl, rfl, hp1, hp2, hbel⟩ := hrel
    by_cases hlt : k < n
    · obtain ⟨i, hi⟩ : ∃ i, n = i + 1 + k := ⟨n - 1 - k, by omega⟩
      obtain ⟨j, hj⟩ : ∃ j, j = a + i := ⟨a + i, rfl⟩
      have hi' : (n : Int) - 1 - (k : Int) = (i : Int) := by omega
      have hidx : (a : Int) + (i : Int) = (j : Int) := by omega
      have hc := hp1.cell j (by omega)
      have hf := hp1.frozen j (by omega)
      have hj64 : j < 64 := by omega
      have HJ : Hid (a + n = j + 1 + k) := Lib.hid (by omega)
      have HI := Lib.hid hi
      have HP1 := Lib.hid hp1
      have HB := Lib.hid (HU.out k (by omega))
      have HQ := Lib.hid (quo_ref U k)
      have hx0 : 0 ≤ U / 256 ^ k := Int.ediv_nonneg hu0 (Int.le_of_lt (Int.pow_pos (by omega)))
      have hx1 : U / 256 ^ k < 18446744073709551616 := Int.lt_of_le_of_lt (Int.ediv_le_self _ hu0) hu1
      have hi0 : 0 ≤ (i : Int) := by omega
      rw [hi']
      clear hp1 hj hi hi'
      generalize U / 256 ^ k = x at HB HQ hx0 hx1 ⊢
      go_wp2
      go_roundw
      case rel =>
        refine ⟨k + 1, by omega, ?_, by rw [← HQ.out], ?_, ?_, ?_⟩
        · have := HI.out; congr 1; omega
        · rw [HB.out, show a + n - (k + 1) = j by have := HJ.out; omega]
          refine PageAt.number HL.out ?_ (by have := HJ.out; omega)
          rw [show j + 1 = a + n - k by have := HJ.out; omega]
          exact HP1.out
        · exact hp2.set_other _ _ _ (by omega)
        · exact hbel.setCell (Nat.le_refl _) _
      case measure => simp [intOf]
    · obtain rfl : k = n := by omega
      have HP1 := Lib.hid hp1
      clear hp1
      have HQ : Hid ((Pg.over p (a + k - k) (Pg.bytesN k v)) = Pg.over p a (Pg.bytesN k v)) := Lib.hid (by rw [Nat.add_sub_cancel])
      rw [HQ.out] at HP1
      clear HQ
      have HQ := Lib.hid HP1.out.len
      have hi' : (k : Int) - 1 - (k : Int) = -1 := by omega
      rw [hi']
      clear hi'
      go_wp2_with (first
        | (with_reducible refine wpList_load_page HP1.out rfl (.tmp 4) rfl rfl ?_)
        | (with_reducible refine wpList_store_page hp2 HQ.out rfl (.tmp 8) (.tmp 41) rfl rfl rfl ?_))
      exact bodyPost_ret (results_page _ 8 rfl _ (hp2.put _ HQ.out) rfl) rfl ⟨rfl, below_setCells _ (by omega) _ _ _ hbel⟩


set_option maxRecDepth 100000 in
set_option maxHeartbeats 1000000 in
theorem refSet_no (p : List UInt8) (a n v : Int) (w : World) (hp : p.length = 64) (h : Pg.numB a n = false) :
    Calls Tryz.prog 83 #[pageV p, .int .i64 a, .int .i64 n, .int .i64 v] w fun e w' => e = .returned (pageV p) ∧ Below w.heap.size w w' := by
  have hn := Pg.num_no h
  clear h
  have hs := set_start w p hp
  rw [zeroCells_def] at hs
  have HS := Lib.hid hs; clear hs
  have HL := Lib.hid hp; clear hp
  unfold pageV
  have hcase : n < 1 ∨ (¬ n < 1 ∧ 4 < n) ∨ (¬ n < 1 ∧ ¬ 4 < n ∧ Hid (Pg.insB a n = false)) := by
    by_cases c1 : n < 1
    · exact Or.inl c1
    · by_cases c2 : 4 < n
      · exact Or.inr (Or.inl ⟨c1, c2⟩)
      · exact Or.inr (Or.inr ⟨c1, c2, Lib.hid (by unfold Pg.insB; rw [decide_eq_false_iff_not]; omega)⟩)
  clear hn
  rcases hcase with c1 | ⟨c1, c2⟩ | ⟨c1, c2, HI⟩
  all_goals
    go_enter Tryz.func83, Tryz.ntmps83
    go_wp2_with (first
      | (go_at_call 71; refine (in_no _ _ _ HI.out).mono ?_; rintro e w' ⟨rfl, rfl⟩)
      | (with_reducible refine wpList_load_page HS.out.1 rfl (.tmp 4) rfl rfl ?_)
      | (with_reducible refine wpList_store_page HS.out.2.1 HL.out rfl (.tmp 8) (.tmp 23) rfl rfl rfl ?_))
    exact bodyPost_ret (results_page _ 8 rfl _ (HS.out.2.1.put _ HL.out) rfl) rfl ⟨rfl, below_setCells _ (by omega) _ _ _ HS.out.2.2⟩

set_option maxRecDepth 100000 in
theorem refSet_any (p : List UInt8) (a n v : Int) (w : World) (hp : p.length = 64) :
    Calls Tryz.prog 83 #[pageV p, .int .i64 a, .int .i64 n, .int .i64 v] w fun e w' => e = .returned (pageV (Pg.setN p a n v)) ∧ Below w.heap.size w w' := by
  by_cases h : Pg.numB a n = true
  · obtain ⟨c1, c2, c3, c4⟩ := Pg.num_yes h
    obtain ⟨A, rfl⟩ := Int.eq_ofNat_of_zero_le c3
    obtain ⟨N, rfl⟩ := Int.eq_ofNat_of_zero_le (show 0 ≤ n by omega)
    have := refSet_yes p A N v w hp (by omega) (by omega) (by omega)
    unfold Pg.setN
    rw [if_pos h]
    exact this
  · have := refSet_no p a n v w hp (by simpa using h)
    unfold Pg.setN
    rw [if_neg h]
    exact this

def strOf (l : List UInt8) : ByteArray := ⟨l.toArray⟩
theorem strOf_size (l : List UInt8) : (strOf l).size = l.length := by simp [strOf, ByteArray.size]
set_option maxRecDepth 100000 in
theorem strOf_snoc (l : List UInt8) (c : UInt8) : strOf (l ++ [c]) = strOf l ++ strOf [c] := by
  unfold strOf
  apply ByteArray.ext
  simp [ByteArray.data_append]
set_option maxRecDepth 100000 in
theorem run_one_byte (w : World) (c : UInt8) : (convert 39 9 (.slice (some ⟨w.heap.size, 0, none⟩) 1 1)).run Tryz.prog (w.alloc (.cells #[.int .u8 (c.toNat : Int)] 5)) = .ok (.string (strOf [c])) (w.alloc (.cells #[.int .u8 (c.toNat : Int)] 5)) := by
  have := run_convert_bytes_back (P := Tryz.prog) (w.alloc (.cells #[.int .u8 (c.toNat : Int)] 5)) 39 9 5 ⟨w.heap.size, 0, none⟩ 1 [c] Tryz.underlying39 Tryz.underlying5 Tryz.underlying9 (fun j hj => by
    obtain rfl : j = 0 := by simpa using hj
    rw [Addr.add_mid]
    simp [go_sem])
  exact this

set_option maxRecDepth 100000 in
set_option maxHeartbeats 1000000 in
theorem refText_yes (p : List UInt8) (a n : Nat) (w : World) (hp : p.length = 64) (h3 : a + n ≤ 64) :
    Calls Tryz.prog 72 #[pageV p, .int .i64 (a : Int), .int .i64 (n : Int)] w fun e w' => e = .returned (.string (strOf ((p.drop a).take n))) ∧ Below w.heap.size w w' := by
  have HP := Lib.hid (pageAt_new w p 38 hp)
  have HL : Hid (((p.drop a).take n).length = n) := Lib.hid (by simp [hp]; omega)
  have HB : Hid (Below w.heap.size w (w.alloc (.cells (byteVals p).toArray 38))) := Lib.hid ((Below.refl _ _).alloc (Nat.le_refl _) _)
  have HN : Hid (Pg.insB (a : Int) (n : Int) = true) := Lib.hid (Pg.ins_mk (by omega) (by omega) (by omega))
  have HG : Hid (∀ k, k < n → ((p.drop a).take n).getD k 0 = p.getD (a + k) 0) := Lib.hid (fun k hk => by
    rw [List.getD_eq_getElem?_getD, List.getD_eq_getElem?_getD, List.getElem?_take, if_pos hk, List.getElem?_drop])
  clear hp
  generalize (p.drop a).take n = l at HL HG ⊢
  unfold pageV
  go_enter Tryz.func72, Tryz.ntmps72
  go_wp2_with fail
  generalize w.alloc (.cells (byteVals p).toArray 38) = w1 at HP HB ⊢
  go_loopw [7, 8] (fun x i wr => ∃ k : Nat, k ≤ n ∧ i = .int .i64 k ∧ x = .string (strOf (l.take k)) ∧ PageAt wr w.heap.size p ∧ Below w.heap.size w wr) (fun _ i _ => n - (intOf i).toNat)
  case atStart => exact ⟨0, Nat.zero_le _, rfl, rfl, HP.out, HB.out⟩
  case round =>
    obtain ⟨k, hk, rfl, rfl, hpk, hbel⟩ := hrel
    by_cases hlt : k < n
    · have HT : Hid (strOf (l.take (k + 1)) = strOf (l.take k) ++ strOf [p.getD (a + k) 0]) := Lib.hid (by
        rw [take_one l 0 k (by rw [HL.out]; exact hlt), strOf_snoc, HG.out k hlt])
      have hidx : (a : Int) + (k : Int) = ((a + k : Nat) : Int) := by omega
      have hc := hpk.cell (a + k) (by omega)
      have h64 : a + k < 64 := by omega
      have hcv := run_one_byte wr (p.getD (a + k) 0)
      have hsz : (strOf (l.take k)).size + (strOf [p.getD (a + k) 0]).size ≤ 64 := by
        rw [strOf_size, strOf_size]; simp; omega
      generalize p.getD (a + k) 0 = c at hc HT hcv hsz
      generalize strOf [c] = t at HT hcv hsz
      generalize strOf (l.take k) = x at HT hsz ⊢
      generalize a + k = j at hidx hc h64
      go_wp2_with (go_at_call 71; refine (in_yes _ _ _ HN.out).mono ?_; rintro e w' ⟨rfl, rfl⟩)
      go_roundw
      case rel => exact ⟨k + 1, by omega, by go_num, by rw [HT.out], hpk.alloc _, hbel.alloc hbel.size _⟩
      case measure => simp [intOf]; omega
    · have HK : Hid (l.take k = l) := Lib.hid (List.take_of_length_le (by rw [HL.out]; omega))
      go_wp2
      go_ret
      exact ⟨by rw [HK.out]; rfl, hbel⟩

set_option maxRecDepth 100000 in
set_option maxHeartbeats 1000000 in
theorem refText_no (p : List UInt8) (a n : Int) (w : World) (h : Pg.insB a n = false) :
    Calls Tryz.prog 72 #[pageV p, .int .i64 a, .int .i64 n] w fun e w' => e = .returned (.string (strOf [])) ∧ Below w.heap.size w w' := by
  have HN := Lib.hid h; clear h
  have HB : Hid (Below w.heap.size w (w.alloc (.cells (byteVals p).toArray 38))) := Lib.hid ((Below.refl _ _).alloc (Nat.le_refl _) _)
  unfold pageV
  by_cases hn : 0 < n
  all_goals
    go_enter Tryz.func72, Tryz.ntmps72
    go_wp2_with fail
    generalize w.alloc (.cells (byteVals p).toArray 38) = w1 at HB ⊢
    go_loop [7, 8] (fun x i => x = .string ⟨#[]⟩ ∧ i = .int .i64 0) (fun _ _ => 0)
    case atStart => exact ⟨rfl, rfl⟩
    case round =>
      obtain ⟨rfl, rfl⟩ := hrel
      go_wp2_with (go_at_call 71; refine (in_no _ _ _ HN.out).mono ?_; rintro e w' ⟨rfl, rfl⟩)
      go_ret
      exact ⟨rfl, HB.out⟩
set_option maxRecDepth 100000 in
theorem refText_any (p : List UInt8) (a n : Int) (w : World) (hp : p.length = 64) :
    Calls Tryz.prog 72 #[pageV p, .int .i64 a, .int .i64 n] w fun e w' => e = .returned (.string (strOf (Pg.textN p a n))) ∧ Below w.heap.size w w' := by
  by_cases h : Pg.insB a n = true
  · obtain ⟨c1, c2, c3⟩ := Pg.ins_yes h
    obtain ⟨A, rfl⟩ := Int.eq_ofNat_of_zero_le c1
    obtain ⟨N, rfl⟩ := Int.eq_ofNat_of_zero_le c2
    have := refText_yes p A N w hp (by omega)
    unfold Pg.textN
    rw [if_pos h]
    exact this
  · have := refText_no p a n w (by simpa using h)
    unfold Pg.textN
    rw [if_neg h]
    exact this

/-! ### SetText -/
set_option maxRecDepth 100000 in
theorem byte_at (s : ByteArray) (k : Nat) (h : k < s.size) : s.data.toList.take (k + 1) = s.data.toList.take k ++ [s[k]] := by
  rw [List.take_succ_eq_append_getElem (by simpa using h)]; rfl
set_option maxRecDepth 100000 in
theorem PageAt.byte {w : World} {b : Nat} {p : List UInt8} {a k : Nat} {s : ByteArray} (hp : p.length = 64) (h : PageAt w b (Pg.over p a (s.data.toList.take k))) (hk : k < s.size) (ha : a + s.size ≤ 64) :
    PageAt (w.setCell ⟨b, a + k, none⟩ (.int .u8 (s[k].toNat : Int))) b (Pg.over p a (s.data.toList.take (k + 1))) := by
  have hl : (s.data.toList.take k).length = k := by simp; omega
  have := h.set (a + k) s[k] (by omega)
  rw [byte_at s k hk, ← Pg.over_set_behind p a _ _ (by rw [hl]; omega), hl]
  exact this
end Go.Proofs.YtppbiohjhnoagaaGreat

/-
  The contracts of the document's own Right, Page, Read and Next.
-/
namespace Go.Proofs.YtppbiohjhnoagaaGreat
open Go.RowKit
open Dk (zeros zeros_length)
open Hd (Head rightB pageH)

set_option maxRecDepth 100000 in
set_option maxHeartbeats 1000000 in
theorem refRight_any (h : Head) (w : World) :
    Calls Tryz.prog 69 #[headV h] w fun e w' => e = .returned (.bool (rightB h)) ∧ Below w.heap.size w w' := by
  obtain ⟨s, l, c, m⟩ := h
  have hc := right_cases s l c m
  unfold headV
  generalize rightB ⟨s, l, c, m⟩ = r at hc ⊢
  rcases hc with ⟨h1, rfl⟩ | ⟨h1, h2, rfl⟩ | ⟨h1, h2, hc⟩
  · have h3 : ¬ 0 ≤ s := by omega
    cases l
    all_goals
      go_enter Tryz.func69, Tryz.ntmps69
      go_wp2
      go_ret
      exact ⟨rfl, (Below.refl _ _).alloc (Nat.le_refl _) _⟩
  · have h3 : ¬ s < 4294967296 := by omega
    cases l
    all_goals
      go_enter Tryz.func69, Tryz.ntmps69
      go_wp2
      go_ret
      exact ⟨rfl, (Below.refl _ _).alloc (Nat.le_refl _) _⟩
  · have h4 : s < 4294967296 := by omega
    rcases hc with ⟨rfl, g1, rfl⟩ | ⟨rfl, g1, g2, rfl⟩ | ⟨rfl, g1, g2, rfl⟩ | ⟨rfl, g1, rfl⟩ | ⟨rfl, rfl, g2, rfl⟩ | ⟨rfl, rfl, rfl, rfl⟩
    · have g3 : ¬ 0 < c := by omega
      go_enter Tryz.func69, Tryz.ntmps69
      go_wp2
      go_ret
      exact ⟨rfl, (Below.refl _ _).alloc (Nat.le_refl _) _⟩
    · have g3 : 0 < c := by omega
      go_enter Tryz.func69, Tryz.ntmps69
      go_wp2
      go_ret
      exact ⟨ret_bool (by simp <;> omega), (Below.refl _ _).alloc (Nat.le_refl _) _⟩
    · have g3 : 0 < c := by omega
      go_enter Tryz.func69, Tryz.ntmps69
      go_wp2
      go_ret
      exact ⟨ret_bool (by simp <;> omega), (Below.refl _ _).alloc (Nat.le_refl _) _⟩
    · have g3 : (c == 0) = false := by simpa using g1
      go_enter Tryz.func69, Tryz.ntmps69
      go_wp2
      go_ret
      exact ⟨rfl, (Below.refl _ _).alloc (Nat.le_refl _) _⟩
    · have g3 : (m == 0) = false := by simpa using g2
      go_enter Tryz.func69, Tryz.ntmps69
      go_wp2
      go_ret
      exact ⟨ret_bool (by simp [g3]), (Below.refl _ _).alloc (Nat.le_refl _) _⟩
    · go_enter Tryz.func69, Tryz.ntmps69
      go_wp2
      go_ret
      exact ⟨rfl, (Below.refl _ _).alloc (Nat.le_refl _) _⟩
set_option maxRecDepth 100000 in
theorem refRight_yes (h : Head) (w : World) (hr : rightB h = true) :
    Calls Tryz.prog 69 #[headV h] w fun e w' => e = .returned (.bool true) ∧ Below w.heap.size w w' := hr ▸ refRight_any h w
set_option maxRecDepth 100000 in
theorem refRight_no (h : Head) (w : World) (hr : rightB h = false) :
    Calls Tryz.prog 69 #[headV h] w fun e w' => e = .returned (.bool false) ∧ Below w.heap.size w w' := hr ▸ refRight_any h w

set_option maxRecDepth 100000 in
theorem ref_chain (h : Head) : Pg.setN (Pg.setN (Pg.setN (Pg.setN (if h.live = true then zeros.set 4 1 else zeros) 0 4 h.seq) 60 4 h.seq) 5 2 h.count) 7 4 h.sum = pageH h := by
  obtain ⟨s, l, c, m⟩ := h
  cases l <;> rfl
set_option maxRecDepth 100000 in
theorem refT : HeadT 99 := ⟨⟨_, Tryz.underlying99, rfl⟩, by kernel_rfl⟩
set_option maxRecDepth 100000 in
theorem Enc.set {w0 : World} {h : Head} {C : Nat} {p : List UInt8} {W : World} (k : Enc w0 h C p W) (i : Nat) (c : UInt8) (hi : i < 64) : Enc w0 h C (p.set i c) (W.setCell ⟨C, i, none⟩ (.int .u8 (c.toNat : Int))) := by
  have hf := k.far
  have far : ∀ j, (W.setCell ⟨C, i, none⟩ (.int .u8 (c.toNat : Int))).cell? ⟨w0.heap.size, j, none⟩ = W.cell? ⟨w0.heap.size, j, none⟩ := fun j =>
    World.cell?_setCell_other _ _ _ _ (fun e => by injection e with e; omega)
  exact ⟨(far 0).trans k.c0, (far 1).trans k.c1, (far 2).trans k.c2, (far 3).trans k.c3, k.res.set_other _ _ _ (by omega), k.cur.set i c hi, hf, k.below.setCell (by show w0.heap.size ≤ C; omega) _⟩
set_option maxRecDepth 100000 in
theorem ref_start (w : World) (s : Int) (l : Bool) (c m : Int) :
    Enc w ⟨s, l, c, m⟩ (w.heap.size + 1 + 1) zeros (((w.alloc (.cells #[.int .i64 s, .bool l, .int .i64 c, .int .u32 m] 99)).alloc (.cells zeroCells 38)).alloc (.cells zeroCells 38)) := by
  have h0 : HeadAt (((w.alloc (.cells #[.int .i64 s, .bool l, .int .i64 c, .int .u32 m] 99)).alloc (.cells zeroCells 38)).alloc (.cells zeroCells 38)) w.heap.size ⟨s, l, c, m⟩ := ((headAt_new w ⟨s, l, c, m⟩ 99).alloc _).alloc _
  have h1 := (pageAt_zeros (w.alloc (.cells #[.int .i64 s, .bool l, .int .i64 c, .int .u32 m] 99)) 38).alloc (.cells zeroCells 38)
  have h2 := pageAt_zeros ((w.alloc (.cells #[.int .i64 s, .bool l, .int .i64 c, .int .u32 m] 99)).alloc (.cells zeroCells 38)) 38
  exact ⟨h0.c0, h0.c1, h0.c2, h0.c3, by simpa using h1, by simpa using h2, by omega, (((Below.refl _ _).alloc (Nat.le_refl _) _).alloc (by simp) _).alloc (by simp; omega) _⟩

set_option maxRecDepth 100000 in
set_option maxHeartbeats 4000000 in
theorem refPage_any (h : Head) (w : World) (hm0 : 0 ≤ h.sum) (hm1 : h.sum < 4294967296) :
    Calls Tryz.prog 70 #[headV h] w fun e w' => e = .returned (pageV (pageH h)) ∧ Below w.heap.size w w' := by
  have HC := Lib.hid (ref_chain h)
  generalize pageH h = Z at HC ⊢
  obtain ⟨s, l, c, m⟩ := h
  simp only at hm0 hm1 HC
  have hs := ref_start w s l c m
  rw [zeroCells_def] at hs
  have HS := Lib.hid hs; clear hs
  unfold headV
  go_enter Tryz.func70, Tryz.ntmps70
  cases l
  · simp only [Bool.false_eq_true, if_false] at HC
    go_wp2_with (first
      | ((with_reducible refine wpList_store_page HS.out.cur zeros_length rfl (.tmp 3) (.tmp 4) rfl ?_ ?_ ?_); (exact rfl); (exact rfl); have E0 := Lib.hid (HS.out.store zeros_length); clear HS; generalize World.setCells _ (w.heap.size + 1 + 1) 0 (byteVals zeros) = W0 at E0 ⊢; have d1 := E0.out.c1; have d0 := E0.out.c0)
      | (with_reducible refine wpList_load_page E0.out.cur rfl (.tmp 3) rfl rfl ?_))
    clear d0 d1
    refine (refSet_any zeros 0 4 s _ zeros_length).mono ?_
    rintro e w2 ⟨rfl, hb2⟩
    have F2 := Lib.hid (E0.out.call hb2)
    have L2 := Lib.hid (Pg.setN_length zeros 0 4 s zeros_length)
    generalize Pg.setN zeros 0 4 s = p2 at L2 HC ⊢
    clear hb2 E0
    go_wp2_with (first
      | ((with_reducible refine wpList_store_page F2.out.cur L2.out rfl (.tmp 3) (.tmp 11) rfl rfl rfl ?_); have E2 := Lib.hid (F2.out.store L2.out); clear F2; generalize w2.setCells (w.heap.size + 1 + 1) 0 (byteVals p2) = W2 at E2 ⊢; have d2 := E2.out.c0)
      | ((with_reducible refine wpList_load_page E2.out.cur rfl (.tmp 3) rfl rfl ?_)))
    clear d2
    refine (refSet_any p2 60 4 s _ L2.out).mono ?_
    rintro e w3 ⟨rfl, hb3⟩
    have F3 := Lib.hid (E2.out.call hb3)
    have L3 := Lib.hid (Pg.setN_length p2 60 4 s L2.out)
    generalize Pg.setN p2 60 4 s = p3 at L3 HC ⊢
    clear hb3 E2
    go_wp2_with (first
      | ((with_reducible refine wpList_store_page F3.out.cur L3.out rfl (.tmp 3) (.tmp 15) rfl rfl rfl ?_); have E3 := Lib.hid (F3.out.store L3.out); clear F3; generalize w3.setCells (w.heap.size + 1 + 1) 0 (byteVals p3) = W3 at E3 ⊢; have d3 := E3.out.c2)
      | ((with_reducible refine wpList_load_page E3.out.cur rfl (.tmp 3) rfl rfl ?_)))
    clear d3
    refine (refSet_any p3 5 2 c _ L3.out).mono ?_
    rintro e w4 ⟨rfl, hb4⟩
    have F4 := Lib.hid (E3.out.call hb4)
    have L4 := Lib.hid (Pg.setN_length p3 5 2 c L3.out)
    generalize Pg.setN p3 5 2 c = p4 at L4 HC ⊢
    clear hb4 E3
    go_wp2_with (first
      | ((with_reducible refine wpList_store_page F4.out.cur L4.out rfl (.tmp 3) (.tmp 19) rfl rfl rfl ?_); have E4 := Lib.hid (F4.out.store L4.out); clear F4; generalize w4.setCells (w.heap.size + 1 + 1) 0 (byteVals p4) = W4 at E4 ⊢; have d4 := E4.out.c3)
      | ((with_reducible refine wpList_load_page E4.out.cur rfl (.tmp 3) rfl rfl ?_)))
    clear d4
    refine (refSet_any p4 7 4 m _ L4.out).mono ?_
    rintro e w5 ⟨rfl, hb5⟩
    have F5 := Lib.hid (E4.out.call hb5)
    have L5 := Lib.hid (Pg.setN_length p4 7 4 m L4.out)
    generalize Pg.setN p4 7 4 m = p5 at L5 HC ⊢
    clear hb5 E4
    go_wp2_with ((with_reducible refine wpList_store_page F5.out.res L5.out rfl (.tmp 2) (.tmp 24) rfl rfl rfl ?_))
    exact bodyPost_ret (results_page _ 2 rfl _ (F5.out.res.put _ L5.out) rfl) rfl ⟨by rw [HC.out], below_setCells _ (by omega) _ _ _ F5.out.below⟩
  · simp only [if_true] at HC
    go_wp2_with (first
      | ((with_reducible refine wpList_store_page HS.out.cur zeros_length rfl (.tmp 3) (.tmp 4) rfl ?_ ?_ ?_); (exact rfl); (exact rfl); have E0 := Lib.hid (HS.out.store zeros_length); clear HS; generalize World.setCells _ (w.heap.size + 1 + 1) 0 (byteVals zeros) = W0 at E0 ⊢; have d1 := E0.out.c1; have c4 : W0.cell? ⟨w.heap.size + 1 + 1, 4, none⟩ = some (.int .u8 0) := E0.out.cur.cell 4 (by omega); have f4 := E0.out.cur.frozen 4 (by omega))
      | ((have E1 : Hid (Enc w ⟨s, true, c, m⟩ (w.heap.size + 1 + 1) (zeros.set 4 1) (W0.setCell ⟨w.heap.size + 1 + 1, 4, none⟩ (.int .u8 1))) := Lib.hid (E0.out.set 4 1 (by omega))); (generalize W0.setCell ⟨w.heap.size + 1 + 1, 4, none⟩ (.int .u8 1) = W1 at E1 ⊢); (with_reducible refine wpList_load_page E1.out.cur rfl (.tmp 3) rfl rfl ?_); clear E0 c4 f4 d1; have d0 := E1.out.c0))
    clear d0
    refine (refSet_any (zeros.set 4 1) 0 4 s _ (by rw [List.length_set, zeros_length])).mono ?_
    rintro e w2 ⟨rfl, hb2⟩
    have F2 := Lib.hid (E1.out.call hb2)
    have L2 := Lib.hid (Pg.setN_length (zeros.set 4 1) 0 4 s (by rw [List.length_set, zeros_length]))
    generalize Pg.setN (zeros.set 4 1) 0 4 s = p2 at L2 HC ⊢
    clear hb2 E1
    go_wp2_with (first
      | ((with_reducible refine wpList_store_page F2.out.cur L2.out rfl (.tmp 3) (.tmp 11) rfl rfl rfl ?_); have E2 := Lib.hid (F2.out.store L2.out); clear F2; generalize w2.setCells (w.heap.size + 1 + 1) 0 (byteVals p2) = W2 at E2 ⊢; have d2 := E2.out.c0)
      | ((with_reducible refine wpList_load_page E2.out.cur rfl (.tmp 3) rfl rfl ?_)))
    clear d2
    refine (refSet_any p2 60 4 s _ L2.out).mono ?_
    rintro e w3 ⟨rfl, hb3⟩
    have F3 := Lib.hid (E2.out.call hb3)
    have L3 := Lib.hid (Pg.setN_length p2 60 4 s L2.out)
    generalize Pg.setN p2 60 4 s = p3 at L3 HC ⊢
    clear hb3 E2
    go_wp2_with (first
      | ((with_reducible refine wpList_store_page F3.out.cur L3.out rfl (.tmp 3) (.tmp 15) rfl rfl rfl ?_); have E3 := Lib.hid (F3.out.store L3.out); clear F3; generalize w3.setCells (w.heap.size + 1 + 1) 0 (byteVals p3) = W3 at E3 ⊢; have d3 := E3.out.c2)
      | ((with_reducible refine wpList_load_page E3.out.cur rfl (.tmp 3) rfl rfl ?_)))
    clear d3
    refine (refSet_any p3 5 2 c _ L3.out).mono ?_
    rintro e w4 ⟨rfl, hb4⟩
    have F4 := Lib.hid (E3.out.call hb4)
    have L4 := Lib.hid (Pg.setN_length p3 5 2 c L3.out)
    generalize Pg.setN p3 5 2 c = p4 at L4 HC ⊢
    clear hb4 E3
    go_wp2_with (first
      | ((with_reducible refine wpList_store_page F4.out.cur L4.out rfl (.tmp 3) (.tmp 19) rfl rfl rfl ?_); have E4 := Lib.hid (F4.out.store L4.out); clear F4; generalize w4.setCells (w.heap.size + 1 + 1) 0 (byteVals p4) = W4 at E4 ⊢; have d4 := E4.out.c3)
      | ((with_reducible refine wpList_load_page E4.out.cur rfl (.tmp 3) rfl rfl ?_)))
    clear d4
    refine (refSet_any p4 7 4 m _ L4.out).mono ?_
    rintro e w5 ⟨rfl, hb5⟩
    have F5 := Lib.hid (E4.out.call hb5)
    have L5 := Lib.hid (Pg.setN_length p4 7 4 m L4.out)
    generalize Pg.setN p4 7 4 m = p5 at L5 HC ⊢
    clear hb5 E4
    go_wp2_with ((with_reducible refine wpList_store_page F5.out.res L5.out rfl (.tmp 2) (.tmp 24) rfl rfl rfl ?_))
    exact bodyPost_ret (results_page _ 2 rfl _ (F5.out.res.put _ L5.out) rfl) rfl ⟨by rw [HC.out], below_setCells _ (by omega) _ _ _ F5.out.below⟩
set_option maxRecDepth 100000 in
theorem RdS.drew {w0 : World} {p : List UInt8} {h : Head} {b : Bool} {W : World} (k : RdS w0 p h b W) : RdS w0 p h b W.drew := ⟨k.page.drew, k.res.drew, k.below.drew⟩
set_option maxRecDepth 100000 in
theorem rdS_boxr (w : World) (p : List UInt8) (h : Head) (hp : p.length = 64) : RdS w p h false ((w.alloc (.cells (byteVals p).toArray 38)).alloc (.cells #[.int .i64 0, .bool false, .int .i64 0, .int .u32 0] 99)) where
  page := (pageAt_new w p _ hp).alloc _
  res := by
    have := headAt_new (w.alloc (.cells (byteVals p).toArray 38)) Hd.zero 99
    have e : (w.alloc (.cells (byteVals p).toArray 38)).heap.size = w.heap.size + 1 := by simp
    rw [e] at this
    exact this
  below := ((Below.refl _ _).alloc (Nat.le_refl _) _).alloc (by simp) _
/-- the same, and the head that is made, empty or laid in -/
def RfS (w0 : World) (p : List UInt8) (h : Head) (s : Option (Nat × Bool)) (W : World) : Prop :=
  RdS w0 p h false W ∧ match s with
    | none => True
    | some (g, b) => w0.heap.size + 1 < g ∧ HeadAt W g (if b = true then h else Hd.zero)
set_option maxRecDepth 100000 in
theorem RfS.call {w0 : World} {p : List UInt8} {h : Head} {s : Option (Nat × Bool)} {W W' : World} (k : RfS w0 p h s W) (hb : Below W.heap.size W W') : RfS w0 p h s W' := by
  refine ⟨RdS.call k.1 hb, ?_⟩
  match s, k with
  | none, _ => trivial
  | some (g, b), k => exact ⟨k.2.1, k.2.2.below hb k.2.2.lt⟩
set_option maxRecDepth 100000 in
theorem RfS.alloc {w0 : World} {p : List UInt8} {h : Head} {W : World} (k : RdS w0 p h false W) : RfS w0 p h (some (W.heap.size, false)) (W.alloc (.cells #[.int .i64 0, .bool false, .int .i64 0, .int .u32 0] 99)) :=
  ⟨⟨k.page.alloc _, k.res.alloc _, k.below.alloc k.below.size _⟩, k.res.lt, headAt_new W Hd.zero 99⟩
set_option maxRecDepth 100000 in
theorem RfS.put {w0 : World} {p : List UInt8} {h : Head} {g : Nat} {b : Bool} {W : World} (k : RfS w0 p h (some (g, b)) W) : RfS w0 p h (some (g, true)) (W.setCells g 0 (headVals h)) := by
  obtain ⟨k1, k2, k3⟩ := k
  exact ⟨⟨k1.page.put_other _ _ _ (by omega), k1.res.put_other _ _ _ (by omega), below_setCells _ (by omega) _ _ _ k1.below⟩, k2, k3.put h⟩
set_option maxRecDepth 100000 in
theorem RdS.back {w0 : World} {p : List UInt8} {h : Head} {W : World} (k : RdS w0 p h false W) (g : Head) : HeadAt (W.setCells (w0.heap.size + 1) 0 (headVals g)) (w0.heap.size + 1) g ∧ Below w0.heap.size w0 (W.setCells (w0.heap.size + 1) 0 (headVals g)) :=
  ⟨k.res.put g, below_setCells _ (by omega) _ _ _ k.below⟩

set_option maxRecDepth 100000 in
set_option maxHeartbeats 2000000 in
theorem refRead_ends (p : List UInt8) (w : World) (hp : p.length = 64) (hne : Pg.getN p 0 4 ≠ Pg.getN p 60 4) :
    Calls Tryz.prog 49 #[pageV p] w fun e w' => e = .returned (.tuple #[headV Hd.zero, .bool false]) ∧ Below w.heap.size w w' := by
  have G0 := Lib.hid (fun (w : World) => refGet_any p 0 4 w hp)
  have G6 := Lib.hid (fun (w : World) => refGet_any p 60 4 w hp)
  have HS := Lib.hid (rdS_boxr w p (Hd.readH p) hp)
  clear hp
  generalize Hd.readH p = h at HS
  generalize Pg.getN p 0 4 = g0 at G0 hne
  generalize Pg.getN p 60 4 = g6 at G6 hne
  unfold pageV
  go_enter Tryz.func49, Tryz.ntmps49
  go_wp2_with fail
  refine wp_region_lin (fun (_ : Unit) => RdS w p h false) (fun _ => false) (fun i => [pageV p, .int .i64 g0, pageV p, .int .i64 g6, .bool true, .bool true, undef, undef, undef, .bool true].getD i undef) (()) (by kernel_rfl) (by kernel_rfl) (HS.out.drew) ?_
  refine lin_step (i := 0) (d := some 6) (v := pageV p) rfl rfl (by kernel_rfl) (by kernel_rfl) rfl rfl (ord_page (by kernel_rfl) (.tmp 1) rfl rfl (fun _ _ hS => hS.page)) ?_
  (try simp only [Act.put, List.setIfInBounds_toArray, List.set_cons_zero, List.set_cons_succ])
  refine lin_step (i := 1) (d := some 7) (v := .int .i64 g0) rfl rfl (by kernel_rfl) (by kernel_rfl) rfl rfl (ord_call (f := 53) (args := #[pageV p, .int .i64 0, .int .i64 4]) (by kernel_rfl) ?_ (fun _ _ hS => (G0.out _).mono fun _ _ ⟨he, hb⟩ => ⟨he, RdS.call hS hb⟩)) ?_
  · intro _; go_simp
  (try simp only [Act.put, List.setIfInBounds_toArray, List.set_cons_zero, List.set_cons_succ])
  refine lin_step (i := 2) (d := some 8) (v := pageV p) rfl rfl (by kernel_rfl) (by kernel_rfl) rfl rfl (ord_page (by kernel_rfl) (.tmp 1) rfl rfl (fun _ _ hS => hS.page)) ?_
  (try simp only [Act.put, List.setIfInBounds_toArray, List.set_cons_zero, List.set_cons_succ])
  refine lin_step (i := 3) (d := some 9) (v := .int .i64 g6) rfl rfl (by kernel_rfl) (by kernel_rfl) rfl rfl (ord_call (f := 53) (args := #[pageV p, .int .i64 60, .int .i64 4]) (by kernel_rfl) ?_ (fun _ _ hS => (G6.out _).mono fun _ _ ⟨he, hb⟩ => ⟨he, RdS.call hS hb⟩)) ?_
  · intro _; go_simp
  (try simp only [Act.put, List.setIfInBounds_toArray, List.set_cons_zero, List.set_cons_succ])
  refine lin_step (i := 4) (d := some 10) (v := .bool true) rfl rfl (by kernel_rfl) (by kernel_rfl) rfl rfl (ord_value (by kernel_rfl) ?_) ?_
  · intro _ _ _; go_simp
  (try simp only [Act.put, List.setIfInBounds_toArray, List.set_cons_zero, List.set_cons_succ])
  refine lin_step (i := 5) (d := some 11) (v := .bool true) rfl rfl (by kernel_rfl) (by kernel_rfl) rfl rfl (ord_value (by kernel_rfl) ?_) ?_
  · intro _ _ _; go_simp
  (try simp only [Act.put, List.setIfInBounds_toArray, List.set_cons_zero, List.set_cons_succ])
  refine lin_step (i := 6) (d := some 12) (v := undef) rfl rfl (by kernel_rfl) (by kernel_rfl) rfl rfl (ord_skip (by kernel_rfl)) ?_
  (try simp only [Act.put, List.setIfInBounds_toArray, List.set_cons_zero, List.set_cons_succ])
  refine lin_step (i := 7) (d := some 13) (v := undef) rfl rfl (by kernel_rfl) (by kernel_rfl) rfl rfl (ord_skip (by kernel_rfl)) ?_
  (try simp only [Act.put, List.setIfInBounds_toArray, List.set_cons_zero, List.set_cons_succ])
  refine lin_step (i := 8) (d := some 14) (v := undef) rfl rfl (by kernel_rfl) (by kernel_rfl) rfl rfl (ord_skip (by kernel_rfl)) ?_
  (try simp only [Act.put, List.setIfInBounds_toArray, List.set_cons_zero, List.set_cons_succ])
  refine lin_step (i := 9) (d := some 15) (v := .bool true) rfl rfl (by kernel_rfl) (by kernel_rfl) rfl rfl (ord_value (by kernel_rfl) ?_) ?_
  · intro _ _ _; go_simp
  (try simp only [Act.put, List.setIfInBounds_toArray, List.set_cons_zero, List.set_cons_succ])
  refine lin_done (by kernel_rfl) ?_
  intro W1 hS
  have S1 := Lib.hid hS
  clear hS HS G0 G6
  go_wp2_with ((with_reducible refine wpList_store_head refT (h := Hd.zero) (RdS.res S1.out) rfl (.tmp 2) (.tmp 16) rfl rfl ?_ ?_); (exact rfl))
  exact bodyPost_ret (results_head2 refT _ 2 3 rfl _ (RdS.back S1.out Hd.zero).1 rfl rfl) rfl ⟨rfl, (RdS.back S1.out Hd.zero).2⟩

set_option maxRecDepth 100000 in
theorem flag_cell {p : List UInt8} {W : World} {b : Nat} (h : PageAt W b p) : W.cell? ⟨b, 4, none⟩ = some (.int .u8 ((p.getD 4 0).toNat : Int)) := h.cell 4 (by omega)

set_option maxRecDepth 100000 in
set_option maxHeartbeats 2000000 in
theorem refRead_flag (p : List UInt8) (w : World) (hp : p.length = 64) (he : Pg.getN p 0 4 = Pg.getN p 60 4) (hf : 1 < (p.getD 4 0).toNat) :
    Calls Tryz.prog 49 #[pageV p] w fun e w' => e = .returned (.tuple #[headV Hd.zero, .bool false]) ∧ Below w.heap.size w w' := by
  have G0 := Lib.hid (fun (w : World) => refGet_any p 0 4 w hp)
  have G6 := Lib.hid (fun (w : World) => refGet_any p 60 4 w hp)
  have HS := Lib.hid (rdS_boxr w p (Hd.readH p) hp)
  have HC4 := Lib.hid (fun (W : World) (h : PageAt W w.heap.size p) => flag_cell h)
  have hf' : (1 : Int) < ((p.getD 4 0).toNat : Int) := by omega
  rw [← he] at G6
  clear hp he hf
  generalize Hd.readH p = h at HS
  generalize Pg.getN p 0 4 = g0 at G0 G6
  generalize ((p.getD 4 0).toNat : Int) = c4 at HC4 hf'
  unfold pageV
  go_enter Tryz.func49, Tryz.ntmps49
  go_wp2_with fail
  refine wp_region_lin (fun (_ : Unit) => RdS w p h false) (fun _ => false) (fun i => [pageV p, .int .i64 g0, pageV p, .int .i64 g0, .bool false, .bool false, .pointer (some ⟨w.heap.size, 4, none⟩), .int .u8 c4, .bool true, .bool true].getD i undef) (()) (by kernel_rfl) (by kernel_rfl) (HS.out.drew) ?_
  refine lin_step (i := 0) (d := some 6) (v := pageV p) rfl rfl (by kernel_rfl) (by kernel_rfl) rfl rfl (ord_page (by kernel_rfl) (.tmp 1) rfl rfl (fun _ _ hS => hS.page)) ?_
  (try simp only [Act.put, List.setIfInBounds_toArray, List.set_cons_zero, List.set_cons_succ])
  refine lin_step (i := 1) (d := some 7) (v := .int .i64 g0) rfl rfl (by kernel_rfl) (by kernel_rfl) rfl rfl (ord_call (f := 53) (args := #[pageV p, .int .i64 0, .int .i64 4]) (by kernel_rfl) ?_ (fun _ _ hS => (G0.out _).mono fun _ _ ⟨he, hb⟩ => ⟨he, RdS.call hS hb⟩)) ?_
  · intro _; go_simp
  (try simp only [Act.put, List.setIfInBounds_toArray, List.set_cons_zero, List.set_cons_succ])
  refine lin_step (i := 2) (d := some 8) (v := pageV p) rfl rfl (by kernel_rfl) (by kernel_rfl) rfl rfl (ord_page (by kernel_rfl) (.tmp 1) rfl rfl (fun _ _ hS => hS.page)) ?_
  (try simp only [Act.put, List.setIfInBounds_toArray, List.set_cons_zero, List.set_cons_succ])
  refine lin_step (i := 3) (d := some 9) (v := .int .i64 g0) rfl rfl (by kernel_rfl) (by kernel_rfl) rfl rfl (ord_call (f := 53) (args := #[pageV p, .int .i64 60, .int .i64 4]) (by kernel_rfl) ?_ (fun _ _ hS => (G6.out _).mono fun _ _ ⟨he, hb⟩ => ⟨he, RdS.call hS hb⟩)) ?_
  · intro _; go_simp
  (try simp only [Act.put, List.setIfInBounds_toArray, List.set_cons_zero, List.set_cons_succ])
  refine lin_step (i := 4) (d := some 10) (v := .bool false) rfl rfl (by kernel_rfl) (by kernel_rfl) rfl rfl (ord_value (by kernel_rfl) ?_) ?_
  · intro _ _ _; go_simp
  (try simp only [Act.put, List.setIfInBounds_toArray, List.set_cons_zero, List.set_cons_succ])
  refine lin_step (i := 5) (d := some 11) (v := .bool false) rfl rfl (by kernel_rfl) (by kernel_rfl) rfl rfl (ord_value (by kernel_rfl) ?_) ?_
  · intro _ _ _; go_simp
  (try simp only [Act.put, List.setIfInBounds_toArray, List.set_cons_zero, List.set_cons_succ])
  refine lin_step (i := 6) (d := some 12) (v := .pointer (some ⟨w.heap.size, 4, none⟩)) rfl rfl (by kernel_rfl) (by kernel_rfl) rfl rfl (ord_value (by kernel_rfl) ?_) ?_
  · intro _ _ _; go_simp
  (try simp only [Act.put, List.setIfInBounds_toArray, List.set_cons_zero, List.set_cons_succ])
  refine lin_step (i := 7) (d := some 13) (v := .int .u8 c4) rfl rfl (by kernel_rfl) (by kernel_rfl) rfl rfl (ord_value (by kernel_rfl) ?_) ?_
  · intro _ W hS; have hc := HC4.out W hS.page; go_simp
  (try simp only [Act.put, List.setIfInBounds_toArray, List.set_cons_zero, List.set_cons_succ])
  refine lin_step (i := 8) (d := some 14) (v := .bool true) rfl rfl (by kernel_rfl) (by kernel_rfl) rfl rfl (ord_value (by kernel_rfl) ?_) ?_
  · intro _ _ _; go_simp
  (try simp only [Act.put, List.setIfInBounds_toArray, List.set_cons_zero, List.set_cons_succ])
  refine lin_step (i := 9) (d := some 15) (v := .bool true) rfl rfl (by kernel_rfl) (by kernel_rfl) rfl rfl (ord_value (by kernel_rfl) ?_) ?_
  · intro _ _ _; go_simp
  (try simp only [Act.put, List.setIfInBounds_toArray, List.set_cons_zero, List.set_cons_succ])
  refine lin_done (by kernel_rfl) ?_
  intro W1 hS
  have S1 := Lib.hid hS
  clear hS HS G0 G6 HC4
  go_wp2_with ((with_reducible refine wpList_store_head refT (h := Hd.zero) (RdS.res S1.out) rfl (.tmp 2) (.tmp 16) rfl rfl ?_ ?_); (exact rfl))
  exact bodyPost_ret (results_head2 refT _ 2 3 rfl _ (RdS.back S1.out Hd.zero).1 rfl rfl) rfl ⟨rfl, (RdS.back S1.out Hd.zero).2⟩

set_option maxRecDepth 100000 in
set_option maxHeartbeats 4000000 in
theorem refRead_rest (p : List UInt8) (w : World) (hp : p.length = 64) (he : Pg.getN p 0 4 = Pg.getN p 60 4) (hf : (p.getD 4 0).toNat ≤ 1) :
    Calls Tryz.prog 49 #[pageV p] w fun e w' => e = .returned (.tuple #[headV (Hd.decH p), .bool (Hd.wholeB p)]) ∧ Below w.heap.size w w' := by
  have hwi := Hd.whole_iff p hp
  have HN : Hid (∀ k, 11 ≤ k → k < 60 → p.getD k 0 ≠ 0 → Hd.decH p = Hd.zero ∧ Hd.wholeB p = false) := Lib.hid (fun k h1 h2 h3 => by
    have hw : Hd.wholeB p = false := by
      cases hw : Hd.wholeB p with
      | false => rfl
      | true => exact absurd ((hwi.1 hw).2.2.1 k h1 h2) h3
    unfold Hd.decH
    rw [hw]
    exact ⟨rfl, rfl⟩)
  have HY : Hid ((∀ j, 11 ≤ j → j < 60 → p.getD j 0 = 0) → rightB (Hd.readH p) = true → Hd.decH p = Hd.readH p ∧ Hd.wholeB p = true) := Lib.hid (fun h1 h2 => by
    have hw := hwi.2 ⟨he, hf, h1, h2⟩
    unfold Hd.decH
    rw [hw]
    exact ⟨rfl, rfl⟩)
  have HM : Hid (rightB (Hd.readH p) = false → Hd.decH p = Hd.zero ∧ Hd.wholeB p = false) := Lib.hid (fun h2 => by
    have hw : Hd.wholeB p = false := by
      cases hw : Hd.wholeB p with
      | false => rfl
      | true => have := (hwi.1 hw).2.2.2; rw [h2] at this; cases this
    unfold Hd.decH
    rw [hw]
    exact ⟨rfl, rfl⟩)
  have G0 := Lib.hid (fun (w : World) => refGet_any p 0 4 w hp)
  have G5 := Lib.hid (fun (w : World) => refGet_any p 5 2 w hp)
  have G6 := Lib.hid (fun (w : World) => refGet_any p 60 4 w hp)
  have G7 := Lib.hid (fun (w : World) => refGet_any p 7 4 w hp)
  have HS := Lib.hid (rdS_boxr w p (Hd.readH p) hp)
  have HC4 := Lib.hid (fun (W : World) (h : PageAt W w.heap.size p) => flag_cell h)
  have hf' : ¬ (1 : Int) < ((p.getD 4 0).toNat : Int) := by omega
  have HB : Hid (headV ⟨Pg.getN p 0 4, ((p.getD 4 0).toNat : Int) == 1, Pg.getN p 5 2, Pg.getN p 7 4⟩ = headV (Hd.readH p)) := Lib.hid (by rw [Hd.flag_get p hp]; rfl)
  obtain ⟨_, _, _, _, k0, k1⟩ := Hd.read_bd p hp
  change 0 ≤ Pg.getN p 7 4 at k0
  change Pg.getN p 7 4 < 4294967296 at k1
  rw [← he] at G6
  clear hp he hf hwi
  generalize Hd.decH p = D at HN HY HM ⊢
  generalize Hd.wholeB p = F at HN HY HM ⊢
  generalize Hd.readH p = h at HS HY HM HB
  generalize Pg.getN p 0 4 = g0 at G0 G6 HB
  generalize Pg.getN p 5 2 = g5 at G5 HB
  generalize Pg.getN p 7 4 = g7 at G7 HB k0 k1
  generalize ((p.getD 4 0).toNat : Int) = c4 at HC4 hf' HB
  unfold headV at HB
  unfold pageV
  go_enter Tryz.func49, Tryz.ntmps49
  go_wp2_with fail
  refine wp_region_lin (fun (_ : Unit) => RdS w p h false) (fun _ => false) (fun i => [pageV p, .int .i64 g0, pageV p, .int .i64 g0, .bool false, .bool false, .pointer (some ⟨w.heap.size, 4, none⟩), .int .u8 c4, .bool false, .bool false].getD i undef) (()) (by kernel_rfl) (by kernel_rfl) (HS.out.drew) ?_
  refine lin_step (i := 0) (d := some 6) (v := pageV p) rfl rfl (by kernel_rfl) (by kernel_rfl) rfl rfl (ord_page (by kernel_rfl) (.tmp 1) rfl rfl (fun _ _ hS => hS.page)) ?_
  (try simp only [Act.put, List.setIfInBounds_toArray, List.set_cons_zero, List.set_cons_succ])
  refine lin_step (i := 1) (d := some 7) (v := .int .i64 g0) rfl rfl (by kernel_rfl) (by kernel_rfl) rfl rfl (ord_call (f := 53) (args := #[pageV p, .int .i64 0, .int .i64 4]) (by kernel_rfl) ?_ (fun _ _ hS => (G0.out _).mono fun _ _ ⟨he, hb⟩ => ⟨he, RdS.call hS hb⟩)) ?_
  · intro _; go_simp
  (try simp only [Act.put, List.setIfInBounds_toArray, List.set_cons_zero, List.set_cons_succ])
  refine lin_step (i := 2) (d := some 8) (v := pageV p) rfl rfl (by kernel_rfl) (by kernel_rfl) rfl rfl (ord_page (by kernel_rfl) (.tmp 1) rfl rfl (fun _ _ hS => hS.page)) ?_
  (try simp only [Act.put, List.setIfInBounds_toArray, List.set_cons_zero, List.set_cons_succ])
  refine lin_step (i := 3) (d := some 9) (v := .int .i64 g0) rfl rfl (by kernel_rfl) (by kernel_rfl) rfl rfl (ord_call (f := 53) (args := #[pageV p, .int .i64 60, .int .i64 4]) (by kernel_rfl) ?_ (fun _ _ hS => (G6.out _).mono fun _ _ ⟨he, hb⟩ => ⟨he, RdS.call hS hb⟩)) ?_
  · intro _; go_simp
  (try simp only [Act.put, List.setIfInBounds_toArray, List.set_cons_zero, List.set_cons_succ])
  refine lin_step (i := 4) (d := some 10) (v := .bool false) rfl rfl (by kernel_rfl) (by kernel_rfl) rfl rfl (ord_value (by kernel_rfl) ?_) ?_
  · intro _ _ _; go_simp
  (try simp only [Act.put, List.setIfInBounds_toArray, List.set_cons_zero, List.set_cons_succ])
  refine lin_step (i := 5) (d := some 11) (v := .bool false) rfl rfl (by kernel_rfl) (by kernel_rfl) rfl rfl (ord_value (by kernel_rfl) ?_) ?_
  · intro _ _ _; go_simp
  (try simp only [Act.put, List.setIfInBounds_toArray, List.set_cons_zero, List.set_cons_succ])
  refine lin_step (i := 6) (d := some 12) (v := .pointer (some ⟨w.heap.size, 4, none⟩)) rfl rfl (by kernel_rfl) (by kernel_rfl) rfl rfl (ord_value (by kernel_rfl) ?_) ?_
  · intro _ _ _; go_simp
  (try simp only [Act.put, List.setIfInBounds_toArray, List.set_cons_zero, List.set_cons_succ])
  refine lin_step (i := 7) (d := some 13) (v := .int .u8 c4) rfl rfl (by kernel_rfl) (by kernel_rfl) rfl rfl (ord_value (by kernel_rfl) ?_) ?_
  · intro _ W hS; have hc := HC4.out W hS.page; go_simp
  (try simp only [Act.put, List.setIfInBounds_toArray, List.set_cons_zero, List.set_cons_succ])
  refine lin_step (i := 8) (d := some 14) (v := .bool false) rfl rfl (by kernel_rfl) (by kernel_rfl) rfl rfl (ord_value (by kernel_rfl) ?_) ?_
  · intro _ _ _; go_simp
  (try simp only [Act.put, List.setIfInBounds_toArray, List.set_cons_zero, List.set_cons_succ])
  refine lin_step (i := 9) (d := some 15) (v := .bool false) rfl rfl (by kernel_rfl) (by kernel_rfl) rfl rfl (ord_value (by kernel_rfl) ?_) ?_
  · intro _ _ _; go_simp
  (try simp only [Act.put, List.setIfInBounds_toArray, List.set_cons_zero, List.set_cons_succ])
  refine lin_done (by kernel_rfl) ?_
  intro W1 hS
  have S1 := Lib.hid hS
  clear hS HS G6 hf'
  go_wp2_with fail
  go_loop [4] (fun i => ∃ k : Nat, 11 ≤ k ∧ k ≤ 60 ∧ i = .int .i64 k ∧ Hid (∀ j, 11 ≤ j → j < k → p.getD j 0 = 0)) (fun i => 60 - (intOf i).toNat)
  case atStart => exact ⟨11, by omega, by omega, rfl, Lib.hid (fun j h1 h2 => by omega)⟩
  case round =>
    obtain ⟨k, hk1, hk2, rfl, HZ⟩ := hrel
    by_cases hlt : k < 60
    · have hc := (RdS.page S1.out).cell k (by omega)
      have hb0 : (0 : Int) ≤ (k : Int) := by omega
      have hb1 : (k : Int) < 64 := by omega
      by_cases hz : p.getD k 0 = 0
      · have HZ2 : Hid (∀ j, 11 ≤ j → j < k + 1 → p.getD j 0 = 0) := Lib.hid (fun j h1 h2 => by
          by_cases e : j = k
          · rw [e]; exact hz
          · exact HZ.out j h1 (by omega))
        rw [hz] at hc
        clear hz
        change W1.cell? ⟨w.heap.size, k, none⟩ = some (.int .u8 0) at hc
        go_wp2_with fail
        go_round
        case rel => exact ⟨k + 1, by omega, by omega, by go_num, HZ2⟩
        case measure => simp [intOf]; omega
      · have HD := Lib.hid (HN.out k hk1 hlt hz)
        have hnz : ((p.getD k 0).toNat : Int) ≠ 0 := fun e => hz (UInt8.toNat_inj.1 (by have : (p.getD k 0).toNat = 0 := by omega
                                                                                        rw [this]; rfl))
        clear hz
        generalize ((p.getD k 0).toNat : Int) = ck at hc hnz
        go_wp2_with ((with_reducible refine wpList_store_head refT (h := Hd.zero) (RdS.res S1.out) rfl (.tmp 2) (.tmp 25) rfl rfl ?_ ?_); (exact rfl))
        exact bodyPost_ret (results_head2 refT _ 2 3 rfl _ (RdS.back S1.out Hd.zero).1 rfl rfl) rfl ⟨by rw [HD.out.1, HD.out.2]; rfl, (RdS.back S1.out Hd.zero).2⟩
    · obtain rfl : k = 60 := by omega
      go_wp2_with fail
      refine wp_region_lin (RfS w p h) (fun i => i == 11 || i == 12) (fun i => [pageV p, .int .i64 g0, .pointer (some ⟨w.heap.size, 4, none⟩), .int .u8 c4, .bool (c4 == 1), pageV p, .int .i64 g5, pageV p, .int .i64 g7, .int .u32 g7, headV h].getD i undef) (none) (by kernel_rfl) (by kernel_rfl) (⟨RdS.drew S1.out, trivial⟩) ?_
      refine lin_step (i := 0) (d := some 26) (v := pageV p) rfl rfl (by kernel_rfl) (by kernel_rfl) rfl rfl (ord_page (by kernel_rfl) (.tmp 1) rfl rfl (fun _ _ hS => hS.1.page)) ?_
      (try simp only [Act.put, List.setIfInBounds_toArray, List.set_cons_zero, List.set_cons_succ])
      refine lin_step (i := 1) (d := some 27) (v := .int .i64 g0) rfl rfl (by kernel_rfl) (by kernel_rfl) rfl rfl (ord_call (f := 53) (args := #[pageV p, .int .i64 0, .int .i64 4]) (by kernel_rfl) ?_ (fun _ _ hS => (G0.out _).mono fun _ _ ⟨he, hb⟩ => ⟨he, RfS.call hS hb⟩)) ?_
      · intro _; go_simp
      (try simp only [Act.put, List.setIfInBounds_toArray, List.set_cons_zero, List.set_cons_succ])
      refine lin_step (i := 2) (d := some 28) (v := .pointer (some ⟨w.heap.size, 4, none⟩)) rfl rfl (by kernel_rfl) (by kernel_rfl) rfl rfl (ord_value (by kernel_rfl) ?_) ?_
      · intro _ _ _; go_simp
      (try simp only [Act.put, List.setIfInBounds_toArray, List.set_cons_zero, List.set_cons_succ])
      refine lin_step (i := 3) (d := some 29) (v := .int .u8 c4) rfl rfl (by kernel_rfl) (by kernel_rfl) rfl rfl (ord_value (by kernel_rfl) ?_) ?_
      · intro _ W hS; have hc := HC4.out W hS.1.page; go_simp
      (try simp only [Act.put, List.setIfInBounds_toArray, List.set_cons_zero, List.set_cons_succ])
      refine lin_step (i := 4) (d := some 30) (v := .bool (c4 == 1)) rfl rfl (by kernel_rfl) (by kernel_rfl) rfl rfl (ord_value (by kernel_rfl) ?_) ?_
      · intro _ _ _; go_simp
      (try simp only [Act.put, List.setIfInBounds_toArray, List.set_cons_zero, List.set_cons_succ])
      refine lin_step (i := 5) (d := some 31) (v := pageV p) rfl rfl (by kernel_rfl) (by kernel_rfl) rfl rfl (ord_page (by kernel_rfl) (.tmp 1) rfl rfl (fun _ _ hS => hS.1.page)) ?_
      (try simp only [Act.put, List.setIfInBounds_toArray, List.set_cons_zero, List.set_cons_succ])
      refine lin_step (i := 6) (d := some 32) (v := .int .i64 g5) rfl rfl (by kernel_rfl) (by kernel_rfl) rfl rfl (ord_call (f := 53) (args := #[pageV p, .int .i64 5, .int .i64 2]) (by kernel_rfl) ?_ (fun _ _ hS => (G5.out _).mono fun _ _ ⟨he, hb⟩ => ⟨he, RfS.call hS hb⟩)) ?_
      · intro _; go_simp
      (try simp only [Act.put, List.setIfInBounds_toArray, List.set_cons_zero, List.set_cons_succ])
      refine lin_step (i := 7) (d := some 33) (v := pageV p) rfl rfl (by kernel_rfl) (by kernel_rfl) rfl rfl (ord_page (by kernel_rfl) (.tmp 1) rfl rfl (fun _ _ hS => hS.1.page)) ?_
      (try simp only [Act.put, List.setIfInBounds_toArray, List.set_cons_zero, List.set_cons_succ])
      refine lin_step (i := 8) (d := some 34) (v := .int .i64 g7) rfl rfl (by kernel_rfl) (by kernel_rfl) rfl rfl (ord_call (f := 53) (args := #[pageV p, .int .i64 7, .int .i64 4]) (by kernel_rfl) ?_ (fun _ _ hS => (G7.out _).mono fun _ _ ⟨he, hb⟩ => ⟨he, RfS.call hS hb⟩)) ?_
      · intro _; go_simp
      (try simp only [Act.put, List.setIfInBounds_toArray, List.set_cons_zero, List.set_cons_succ])
      refine lin_step (i := 9) (d := some 35) (v := .int .u32 g7) rfl rfl (by kernel_rfl) (by kernel_rfl) rfl rfl (ord_value (by kernel_rfl) ?_) ?_
      · intro _ _ _; go_simp; exact wrap_u32_in _ k0 k1
      (try simp only [Act.put, List.setIfInBounds_toArray, List.set_cons_zero, List.set_cons_succ])
      refine lin_step (i := 10) (d := some 36) (v := headV h) rfl rfl (by kernel_rfl) (by kernel_rfl) rfl rfl (ord_value (by kernel_rfl) ?_) ?_
      · intro _ _ _; go_simp; exact HB.out
      (try simp only [Act.put, List.setIfInBounds_toArray, List.set_cons_zero, List.set_cons_succ])
      refine lin_turn (i := 11) (d := some 5) (fun u s => ∃ g, w.heap.size + 1 < g ∧ u = .pointer (some ⟨g, 0, none⟩) ∧ s = some (g, false)) rfl rfl (by kernel_rfl) (by kernel_rfl) rfl (by kernel_rfl) (⟨_, _, w.heap.size + 2, by omega, rfl, rfl⟩) (by kernel_rfl) (fun W hS => gives_to (v := .pointer (some ⟨W.heap.size, 0, none⟩)) (w' := W.alloc (.cells #[.int .i64 0, .bool false, .int .i64 0, .int .u32 0] 99)) (by go_simp) ⟨some (W.heap.size, false), ⟨W.heap.size, hS.1.res.lt, rfl, rfl⟩, RfS.alloc hS.1⟩) ?_
      rintro _ _ ⟨g, hg, rfl, rfl⟩
      (try simp only [Act.put, List.setIfInBounds_toArray, List.set_cons_zero, List.set_cons_succ])
      refine lin_turn (i := 12) (d := none) (fun u s => u = undef ∧ s = some (g, true)) rfl rfl (by kernel_rfl) (by kernel_rfl) rfl (by kernel_rfl) (⟨_, _, rfl, rfl⟩) (by kernel_rfl) (fun W hS => gives_store_head refT hS.2.2 (.tmp 5) (.tmp 36) rfl rfl rfl ⟨some (g, true), ⟨rfl, rfl⟩, RfS.put hS⟩) ?_
      rintro _ _ ⟨rfl, rfl⟩
      (try simp only [Act.put, List.setIfInBounds_toArray, List.set_cons_zero, List.set_cons_succ])
      refine lin_done (by kernel_rfl) ?_
      intro W2 hS
      have S2 : Hid (RdS w p h false W2) := Lib.hid hS.1
      have H2 : Hid (HeadAt W2 g h) := Lib.hid hS.2.2
      clear hS S1 G0 G5 G7 HC4 HB
      go_wp2_with (with_reducible refine wpList_load_head refT H2.out rfl (.tmp 5) rfl rfl ?_)
      cases hr : rightB h with
      | true =>
        have HD := Lib.hid (HY.out HZ.out hr)
        refine (refRight_yes h _ hr).mono ?_
        rintro e w3 ⟨rfl, hb3⟩
        have S3 := Lib.hid (RdS.call S2.out hb3)
        have H3 := Lib.hid (H2.out.below hb3 H2.out.lt)
        clear S2 H2 hb3 hr HY HM HN
        go_wp2_with (first
          | ((with_reducible refine wpList_load_head refT H3.out rfl (.tmp 5) rfl rfl ?_))
          | ((with_reducible refine wpList_store_head refT (h := h) (RdS.res S3.out) rfl (.tmp 2) (.tmp 41) rfl rfl ?_ ?_); (exact rfl)))
        exact bodyPost_ret (results_head2 refT _ 2 3 rfl _ (RdS.back S3.out h).1 rfl rfl) rfl ⟨by rw [HD.out.1, HD.out.2]; rfl, (RdS.back S3.out h).2⟩
      | false =>
        have HD := Lib.hid (HM.out hr)
        refine (refRight_no h _ hr).mono ?_
        rintro e w3 ⟨rfl, hb3⟩
        have S3 := Lib.hid (RdS.call S2.out hb3)
        have H3 := Lib.hid (H2.out.below hb3 H2.out.lt)
        clear S2 H2 hb3 hr HY HM HN
        go_wp2_with ((with_reducible refine wpList_store_head refT (h := Hd.zero) (RdS.res S3.out) rfl (.tmp 2) (.tmp 40) rfl rfl ?_ ?_); (exact rfl))
        exact bodyPost_ret (results_head2 refT _ 2 3 rfl _ (RdS.back S3.out Hd.zero).1 rfl rfl) rfl ⟨by rw [HD.out.1, HD.out.2]; rfl, (RdS.back S3.out Hd.zero).2⟩

set_option maxRecDepth 100000 in
theorem refRead_any (p : List UInt8) (w : World) (hp : p.length = 64) :
    Calls Tryz.prog 49 #[pageV p] w fun e w' => e = .returned (.tuple #[headV (Hd.decH p), .bool (Hd.wholeB p)]) ∧ Below w.heap.size w w' := by
  have hwi := Hd.whole_iff p hp
  by_cases he : Pg.getN p 0 4 = Pg.getN p 60 4
  · by_cases hf : (p.getD 4 0).toNat ≤ 1
    · exact refRead_rest p w hp he hf
    · have hw : Hd.wholeB p = false := by
        cases hw : Hd.wholeB p with
        | false => rfl
        | true => exact absurd (hwi.1 hw).2.1 hf
      unfold Hd.decH
      rw [hw]
      exact refRead_flag p w hp he (by omega)
  · have hw : Hd.wholeB p = false := by
      cases hw : Hd.wholeB p with
      | false => rfl
      | true => exact absurd (hwi.1 hw).1 he
    unfold Hd.decH
    rw [hw]
    exact refRead_ends p w hp he
set_option maxRecDepth 100000 in
set_option maxHeartbeats 2000000 in
theorem refNext_any (A : Option Addr) (n c : Nat) (ps : List (List UInt8)) (w : World) (hrow : PageRow w A n ps) :
    Calls Tryz.prog 50 #[.slice A n c] w fun e w' => e = .returned (.int .i64 (Hd.nextN ps)) ∧ Below w.heap.size w w' := by
  have hn := hrow.small
  unfold maxLen at hn
  have HR : Hid (NxR w A n ps w) := Lib.hid ⟨hrow, Below.refl _ _⟩
  have HL := Lib.hid hrow.len
  have HZ := Lib.hid hrow.size
  clear hrow
  go_enter Tryz.func50, Tryz.ntmps50
  go_wp2_with fail
  go_loopw [3, 4] (fun x i wr => ∃ k : Nat, k ≤ n ∧ i = .int .i64 k ∧ x = .int .i64 (Hd.nextN (ps.take k)) ∧ NxR w A n ps wr) (fun _ i _ => n - (intOf i).toNat)
  case atStart => exact ⟨0, Nat.zero_le _, rfl, rfl, HR.out⟩
  case round =>
    obtain ⟨k, hk, rfl, rfl, hnx⟩ := hrel
    have HX := Lib.hid hnx
    clear hnx HR
    by_cases hlt : k < n
    · obtain ⟨b, off, rfl, hb, hc⟩ := HX.out.1.cells (by omega)
      obtain ⟨p, hp⟩ : ∃ p, ps[k]? = some p := ⟨_, List.getElem?_eq_getElem (by rw [HL.out]; exact hlt)⟩
      have HPL := Lib.hid (HZ.out p (List.mem_of_getElem? hp))
      have HT := Lib.hid (take_more ps k p hp)
      have HC : Hid (∀ W, NxR w (some ⟨b, off, none⟩) n ps W → W.rangeAt b (off + k * 64) (byteVals p)) := Lib.hid (fun W hW => by
        obtain ⟨b', off', e, _, hc'⟩ := hW.1.cells (by omega)
        injection e with e
        injection e with e1 e2
        subst e1 e2
        exact hc' k p hp)
      have G0 := Lib.hid (fun (w : World) => refGet_any p 0 4 w HPL.out)
      have G6 := Lib.hid (fun (w : World) => refGet_any p 60 4 w HPL.out)
      have hbd := Hd.get_bd p HPL.out
      have HU : Hid (Hd.nextN (ps.take (k + 1)) = max (max (Hd.nextN (ps.take k)) (Pg.getN p 0 4 + 1)) (Pg.getN p 60 4 + 1)) := Lib.hid (by rw [HT.out, Hd.nextN_snoc]; rfl)
      have hx0 := Hd.nextN_nonneg (ps.take k)
      have hx1 := Hd.nextN_top (ps.take k) (fun q hq => HZ.out q (List.mem_of_mem_take hq))
      clear hc hp hb HT
      generalize Hd.nextN (ps.take k) = x at HU hx0 hx1 ⊢
      generalize Pg.getN p 0 4 = g0 at G0 HU hbd
      generalize Pg.getN p 60 4 = g6 at G6 HU hbd
      obtain ⟨b1, b2, b3, b4⟩ := hbd
      have hk0 : (0 : Int) ≤ (k : Int) := by omega
      have hk1 : (k : Int) < (n : Int) := by omega
      go_wp2_with fail
      refine wp_region_lin (fun (_ : Unit) => NxR w (some ⟨b, off, none⟩) n ps) (fun _ => false) (fun i => [.slice (some ⟨b, off, none⟩) n c, .int .i64 k, .pointer (some ⟨b, off + k * 64, none⟩), pageV p, .int .i64 g0, .slice (some ⟨b, off, none⟩) n c, .int .i64 k, .pointer (some ⟨b, off + k * 64, none⟩), pageV p, .int .i64 g6, .int .i64 g0, .int .i64 g6].getD i undef) (()) (by kernel_rfl) (by kernel_rfl) (HX.out.drew) ?_
      refine lin_step (i := 0) (d := some 13) (v := .slice (some ⟨b, off, none⟩) n c) rfl rfl (by kernel_rfl) (by kernel_rfl) rfl rfl (ord_value (by kernel_rfl) ?_) ?_
      · intro _ _ _; go_simp
      (try simp only [Act.put, List.setIfInBounds_toArray, List.set_cons_zero, List.set_cons_succ])
      refine lin_step (i := 1) (d := some 14) (v := .int .i64 k) rfl rfl (by kernel_rfl) (by kernel_rfl) rfl rfl (ord_value (by kernel_rfl) ?_) ?_
      · intro _ _ _; go_simp
      (try simp only [Act.put, List.setIfInBounds_toArray, List.set_cons_zero, List.set_cons_succ])
      refine lin_step (i := 2) (d := some 15) (v := .pointer (some ⟨b, off + k * 64, none⟩)) rfl rfl (by kernel_rfl) (by kernel_rfl) rfl rfl (ord_value (by kernel_rfl) ?_) ?_
      · intro _ _ _; go_simp
      (try simp only [Act.put, List.setIfInBounds_toArray, List.set_cons_zero, List.set_cons_succ])
      refine lin_step (i := 3) (d := some 16) (v := pageV p) rfl rfl (by kernel_rfl) (by kernel_rfl) rfl rfl (ord_page_at (by kernel_rfl) (.tmp 15) rfl rfl HPL.out (fun _ _ hS => HC.out _ hS)) ?_
      (try simp only [Act.put, List.setIfInBounds_toArray, List.set_cons_zero, List.set_cons_succ])
      refine lin_step (i := 4) (d := some 17) (v := .int .i64 g0) rfl rfl (by kernel_rfl) (by kernel_rfl) rfl rfl (ord_call (f := 53) (args := #[pageV p, .int .i64 0, .int .i64 4]) (by kernel_rfl) ?_ (fun _ _ hS => (G0.out _).mono fun _ _ ⟨he, hb⟩ => ⟨he, NxR.call hS hb⟩)) ?_
      · intro _; go_simp
      (try simp only [Act.put, List.setIfInBounds_toArray, List.set_cons_zero, List.set_cons_succ])
      refine lin_step (i := 5) (d := some 18) (v := .slice (some ⟨b, off, none⟩) n c) rfl rfl (by kernel_rfl) (by kernel_rfl) rfl rfl (ord_value (by kernel_rfl) ?_) ?_
      · intro _ _ _; go_simp
      (try simp only [Act.put, List.setIfInBounds_toArray, List.set_cons_zero, List.set_cons_succ])
      refine lin_step (i := 6) (d := some 19) (v := .int .i64 k) rfl rfl (by kernel_rfl) (by kernel_rfl) rfl rfl (ord_value (by kernel_rfl) ?_) ?_
      · intro _ _ _; go_simp
      (try simp only [Act.put, List.setIfInBounds_toArray, List.set_cons_zero, List.set_cons_succ])
      refine lin_step (i := 7) (d := some 20) (v := .pointer (some ⟨b, off + k * 64, none⟩)) rfl rfl (by kernel_rfl) (by kernel_rfl) rfl rfl (ord_value (by kernel_rfl) ?_) ?_
      · intro _ _ _; go_simp
      (try simp only [Act.put, List.setIfInBounds_toArray, List.set_cons_zero, List.set_cons_succ])
      refine lin_step (i := 8) (d := some 21) (v := pageV p) rfl rfl (by kernel_rfl) (by kernel_rfl) rfl rfl (ord_page_at (by kernel_rfl) (.tmp 20) rfl rfl HPL.out (fun _ _ hS => HC.out _ hS)) ?_
      (try simp only [Act.put, List.setIfInBounds_toArray, List.set_cons_zero, List.set_cons_succ])
      refine lin_step (i := 9) (d := some 22) (v := .int .i64 g6) rfl rfl (by kernel_rfl) (by kernel_rfl) rfl rfl (ord_call (f := 53) (args := #[pageV p, .int .i64 60, .int .i64 4]) (by kernel_rfl) ?_ (fun _ _ hS => (G6.out _).mono fun _ _ ⟨he, hb⟩ => ⟨he, NxR.call hS hb⟩)) ?_
      · intro _; go_simp
      (try simp only [Act.put, List.setIfInBounds_toArray, List.set_cons_zero, List.set_cons_succ])
      refine lin_step (i := 10) (d := some 5) (v := .int .i64 g0) rfl rfl (by kernel_rfl) (by kernel_rfl) rfl rfl (ord_value (by kernel_rfl) ?_) ?_
      · intro _ _ _; go_simp
      (try simp only [Act.put, List.setIfInBounds_toArray, List.set_cons_zero, List.set_cons_succ])
      refine lin_step (i := 11) (d := some 6) (v := .int .i64 g6) rfl rfl (by kernel_rfl) (by kernel_rfl) rfl rfl (ord_value (by kernel_rfl) ?_) ?_
      · intro _ _ _; go_simp
      (try simp only [Act.put, List.setIfInBounds_toArray, List.set_cons_zero, List.set_cons_succ])
      refine lin_done (by kernel_rfl) ?_
      intro W3 hS
      have S3 := Lib.hid hS
      clear hS HX G0 G6 HC
      go_wp2_with fail
      all_goals
        go_roundw
        case rel => exact ⟨k + 1, by omega, by go_num, by rw [HU.out]; congr 1; omega, S3.out⟩
        case measure => simp [intOf]; omega
    · have HK : Hid (ps.take k = ps) := Lib.hid (List.take_of_length_le (by rw [HL.out]; omega))
      go_wp2_with fail
      go_ret
      exact ⟨ret_int (by rw [HK.out]), HX.out.2⟩
end Go.Proofs.YtppbiohjhnoagaaGreat
