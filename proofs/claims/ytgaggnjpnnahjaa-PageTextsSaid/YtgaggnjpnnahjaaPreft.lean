/-
  The contracts of the document's own Text and SetText.
-/
import Derived.Test.YtgaggnjpnnahjaaPref
import Derived.Test.YtgaggnjpnnahjaaPtext
namespace Go.Proofs.Ytgaggnjpnnahjaa
open Go.RowKit

theorem strOf_snoc (l : List UInt8) (c : UInt8) : strOf (l ++ [c]) = strOf l ++ strOf [c] := by
  unfold strOf
  apply ByteArray.ext
  simp [ByteArray.data_append]
theorem run_one_byte (w : World) (c : UInt8) : (convert 39 9 (.slice (some ⟨w.heap.size, 0, none⟩) 1 1)).run Try.prog (w.alloc (.cells #[.int .u8 (c.toNat : Int)] 5)) = .ok (.string (strOf [c])) (w.alloc (.cells #[.int .u8 (c.toNat : Int)] 5)) := by
  have := run_convert_bytes_back (P := Try.prog) (w.alloc (.cells #[.int .u8 (c.toNat : Int)] 5)) 39 9 5 ⟨w.heap.size, 0, none⟩ 1 [c] Try.underlying39 Try.underlying5 Try.underlying9 (fun j hj => by
    obtain rfl : j = 0 := by simpa using hj
    rw [Addr.add_mid]
    simp [go_sem])
  exact this

set_option maxHeartbeats 1000000 in
theorem refText_yes (p : List UInt8) (a n : Nat) (w : World) (hp : p.length = 64) (h3 : a + n ≤ 64) :
    Calls Try.prog 13 #[pageV p, .int .i64 (a : Int), .int .i64 (n : Int)] w fun e w' => e = .returned (.string (strOf ((p.drop a).take n))) ∧ Below w.heap.size w w' := by
  have HP := Lib.hid (pageAt_new w p 23 hp)
  have HL : Hid (((p.drop a).take n).length = n) := Lib.hid (by simp [hp]; omega)
  have HB : Hid (Below w.heap.size w (w.alloc (.cells (byteVals p).toArray 23))) := Lib.hid ((Below.refl _ _).alloc (Nat.le_refl _) _)
  have HN : Hid (Pg.insB (a : Int) (n : Int) = true) := Lib.hid (Pg.ins_mk (by omega) (by omega) (by omega))
  have HG : Hid (∀ k, k < n → ((p.drop a).take n).getD k 0 = p.getD (a + k) 0) := Lib.hid (fun k hk => by
    rw [List.getD_eq_getElem?_getD, List.getD_eq_getElem?_getD, List.getElem?_take, if_pos hk, List.getElem?_drop])
  clear hp
  generalize (p.drop a).take n = l at HL HG ⊢
  unfold pageV
  go_enter Try.func13, Try.ntmps13
  go_wp2_with fail
  generalize w.alloc (.cells (byteVals p).toArray 23) = w1 at HP HB ⊢
  go_loopw [7, 8] (fun x i wr => ∃ k : Nat, k ≤ n ∧ i = .int .i64 k ∧ x = .string (strOf (l.take k)) ∧ PageAt wr w.heap.size p ∧ Below w.heap.size w wr) (fun _ i _ => n - (intOf i).toNat)
  case atStart => exact ⟨0, Nat.zero_le _, rfl, rfl, HP.out, HB.out⟩
  case round =>
    obtain ⟨k, hk, rfl, rfl, hpk, hbel⟩ := hrel
    by_cases hlt : k < n
    · have HT : Hid (strOf (l.take (k + 1)) = strOf (l.take k) ++ strOf [p.getD (a + k) 0]) := Lib.hid (by
        rw [take_one l 0 k (by rw [HL.out]; exact hlt), strOf_snoc, HG.out k hlt])
      have hidx : (a : Int) + (k : Int) = ((a + k : Nat) : Int) := by omega
      have hc := hpk.cell (a + k) (by omega)
      have h64 : a + k < 64 := by omega
      have hcv := run_one_byte wr (p.getD (a + k) 0)
      have hsz : (strOf (l.take k)).size + (strOf [p.getD (a + k) 0]).size ≤ 64 := by
        rw [strOf_size, strOf_size]; simp; omega
      generalize p.getD (a + k) 0 = c at hc HT hcv hsz
      generalize strOf [c] = t at HT hcv hsz
      generalize strOf (l.take k) = x at HT hsz ⊢
      generalize a + k = j at hidx hc h64
      go_wp2_with (go_at_call 20; refine (in_yes _ _ _ HN.out).mono ?_; rintro e w' ⟨rfl, rfl⟩)
      go_roundw
      case rel => exact ⟨k + 1, by omega, by go_num, by rw [HT.out], hpk.alloc _, hbel.alloc hbel.size _⟩
      case measure => simp [intOf]; omega
    · have HK : Hid (l.take k = l) := Lib.hid (List.take_of_length_le (by rw [HL.out]; omega))
      go_wp2
      go_ret
      exact ⟨by rw [HK.out]; rfl, hbel⟩

set_option maxHeartbeats 1000000 in
theorem refText_no (p : List UInt8) (a n : Int) (w : World) (h : Pg.insB a n = false) :
    Calls Try.prog 13 #[pageV p, .int .i64 a, .int .i64 n] w fun e w' => e = .returned (.string (strOf [])) ∧ Below w.heap.size w w' := by
  have HN := Lib.hid h; clear h
  have HB : Hid (Below w.heap.size w (w.alloc (.cells (byteVals p).toArray 23))) := Lib.hid ((Below.refl _ _).alloc (Nat.le_refl _) _)
  unfold pageV
  by_cases hn : 0 < n
  all_goals
    go_enter Try.func13, Try.ntmps13
    go_wp2_with fail
    generalize w.alloc (.cells (byteVals p).toArray 23) = w1 at HB ⊢
    go_loop [7, 8] (fun x i => x = .string ⟨#[]⟩ ∧ i = .int .i64 0) (fun _ _ => 0)
    case atStart => exact ⟨rfl, rfl⟩
    case round =>
      obtain ⟨rfl, rfl⟩ := hrel
      go_wp2_with (go_at_call 20; refine (in_no _ _ _ HN.out).mono ?_; rintro e w' ⟨rfl, rfl⟩)
      go_ret
      exact ⟨rfl, HB.out⟩
theorem refText_any (p : List UInt8) (a n : Int) (w : World) (hp : p.length = 64) :
    Calls Try.prog 13 #[pageV p, .int .i64 a, .int .i64 n] w fun e w' => e = .returned (.string (strOf (Pg.textN p a n))) ∧ Below w.heap.size w w' := by
  by_cases h : Pg.insB a n = true
  · obtain ⟨c1, c2, c3⟩ := Pg.ins_yes h
    obtain ⟨A, rfl⟩ := Int.eq_ofNat_of_zero_le c1
    obtain ⟨N, rfl⟩ := Int.eq_ofNat_of_zero_le c2
    have := refText_yes p A N w hp (by omega)
    unfold Pg.textN
    rw [if_pos h]
    exact this
  · have := refText_no p a n w (by simpa using h)
    unfold Pg.textN
    rw [if_neg h]
    exact this

/-! ### SetText -/
theorem byte_at (s : ByteArray) (k : Nat) (h : k < s.size) : s.data.toList.take (k + 1) = s.data.toList.take k ++ [s[k]] := by
  rw [List.take_succ_eq_append_getElem (by simpa using h)]; rfl
theorem PageAt.byte {w : World} {b : Nat} {p : List UInt8} {a k : Nat} {s : ByteArray} (hp : p.length = 64) (h : PageAt w b (Pg.over p a (s.data.toList.take k))) (hk : k < s.size) (ha : a + s.size ≤ 64) :
    PageAt (w.setCell ⟨b, a + k, none⟩ (.int .u8 (s[k].toNat : Int))) b (Pg.over p a (s.data.toList.take (k + 1))) := by
  have hl : (s.data.toList.take k).length = k := by simp; omega
  have := h.set (a + k) s[k] (by omega)
  rw [byte_at s k hk, ← Pg.over_set_behind p a _ _ (by rw [hl]; omega), hl]
  exact this
set_option maxHeartbeats 1000000 in
theorem refSetText_yes (p : List UInt8) (a : Nat) (s : ByteArray) (w : World) (hp : p.length = 64) (h : a + s.size ≤ 64) :
    Calls Try.prog 15 #[pageV p, .int .i64 (a : Int), .string s] w fun e w' => e = .returned (pageV (Pg.over p a s.data.toList)) ∧ Below w.heap.size w w' := by
  have HS := Lib.hid (set_start w p hp)
  have HL := Lib.hid hp
  have HN : Hid (Pg.insB (a : Int) (s.size : Int) = true) := Lib.hid (Pg.ins_mk (by omega) (by omega) (by omega))
  clear hp
  unfold pageV
  go_enter Try.func15, Try.ntmps15
  go_wp2_with (go_at_call 20; refine (in_yes _ _ _ HN.out).mono ?_; rintro e w' ⟨rfl, rfl⟩)
  rw [← zeroCells_def]
  generalize (w.alloc (.cells (byteVals p).toArray 23)).alloc (.cells zeroCells 23) = w1 at HS ⊢
  go_loopw [7] (fun i wr => ∃ k : Nat, k ≤ s.size ∧ i = .int .i64 k ∧ PageAt wr w.heap.size (Pg.over p a (s.data.toList.take k)) ∧ PageAt wr (w.heap.size + 1) zeros ∧ Below w.heap.size w wr) (fun i _ => s.size - (intOf i).toNat)
  case atStart => exact ⟨0, Nat.zero_le _, rfl, by rw [List.take_zero, Pg.over_nil]; exact HS.out.1, HS.out.2.1, HS.out.2.2⟩
  case round =>
    obtain ⟨k, hk, rfl, hp1, hp2, hbel⟩ := hrel
    by_cases hlt : k < s.size
    · obtain ⟨j, hj⟩ : ∃ j, j = a + k := ⟨a + k, rfl⟩
      have hidx : (a : Int) + (k : Int) = (j : Int) := by omega
      have hc := hp1.cell j (by omega)
      have hf := hp1.frozen j (by omega)
      have hj64 : j < 64 := by omega
      have HJ := Lib.hid hj
      have HP1 := Lib.hid hp1
      clear hp1 hj
      go_wp2
      go_roundw
      case rel =>
        refine ⟨k + 1, by omega, by go_num, ?_, ?_, ?_⟩
        · rw [HJ.out]; exact HP1.out.byte HL.out hlt h
        · exact hp2.set_other _ _ _ (by omega)
        · exact hbel.setCell (Nat.le_refl _) _
      case measure => simp [intOf]; omega
    · have hk' : s.data.toList.take k = s.data.toList := List.take_of_length_le (by simp; omega)
      rw [hk'] at hp1
      have HP1 := Lib.hid hp1
      clear hp1 hk'
      go_wp2_with (first
        | (with_reducible refine wpList_load_page HP1.out rfl (.tmp 3) rfl rfl ?_)
        | (with_reducible refine wpList_store_page hp2 HP1.out.len rfl (.tmp 6) (.tmp 27) rfl rfl rfl ?_))
      exact bodyPost_ret (results_page _ 6 rfl _ (hp2.put _ HP1.out.len) rfl) rfl ⟨rfl, below_setCells _ (by omega) _ _ _ hbel⟩
set_option maxHeartbeats 1000000 in
theorem refSetText_no (p : List UInt8) (a : Int) (s : ByteArray) (w : World) (hp : p.length = 64) (h : Pg.insB a s.size = false) :
    Calls Try.prog 15 #[pageV p, .int .i64 a, .string s] w fun e w' => e = .returned (pageV p) ∧ Below w.heap.size w w' := by
  have hs := set_start w p hp
  rw [zeroCells_def] at hs
  have HS := Lib.hid hs
  have HN := Lib.hid h
  have HL := Lib.hid hp
  clear hp hs h
  unfold pageV
  go_enter Try.func15, Try.ntmps15
  go_wp2_with (first
    | (go_at_call 20; refine (in_no _ _ _ HN.out).mono ?_; rintro e w' ⟨rfl, rfl⟩)
    | (with_reducible refine wpList_load_page HS.out.1 rfl (.tmp 3) rfl rfl ?_)
    | (with_reducible refine wpList_store_page HS.out.2.1 HL.out rfl (.tmp 6) (.tmp 13) rfl rfl rfl ?_))
  exact bodyPost_ret (results_page _ 6 rfl _ (HS.out.2.1.put _ HL.out) rfl) rfl ⟨rfl, below_setCells _ (by omega) _ _ _ HS.out.2.2⟩
theorem refSetText_any (p : List UInt8) (a : Int) (s : ByteArray) (w : World) (hp : p.length = 64) :
    Calls Try.prog 15 #[pageV p, .int .i64 a, .string s] w fun e w' => e = .returned (pageV (Pg.setTextN p a s.data.toList)) ∧ Below w.heap.size w w' := by
  have hlen : (s.data.toList.length : Int) = (s.size : Int) := by simp
  by_cases h : Pg.insB a s.size = true
  · obtain ⟨c1, c2, c3⟩ := Pg.ins_yes h
    obtain ⟨A, rfl⟩ := Int.eq_ofNat_of_zero_le c1
    have := refSetText_yes p A s w hp (by omega)
    unfold Pg.setTextN
    rw [hlen, if_pos h]
    exact this
  · have := refSetText_no p a s w hp (by simpa using h)
    unfold Pg.setTextN
    rw [hlen, if_neg h]
    exact this
end Go.Proofs.Ytgaggnjpnnahjaa
