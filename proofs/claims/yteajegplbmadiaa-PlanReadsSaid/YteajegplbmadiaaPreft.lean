/-
  The contract of the document's own SetText.
-/
import Derived.Test.YteajegplbmadiaaPref
import Derived.Test.YteajegplbmadiaaPtext
namespace Go.Proofs.Yteajegplbmadiaa
open Go.RowKit

/-! ### SetText -/
theorem byte_at (s : ByteArray) (k : Nat) (h : k < s.size) : s.data.toList.take (k + 1) = s.data.toList.take k ++ [s[k]] := by
  rw [List.take_succ_eq_append_getElem (by simpa using h)]; rfl
theorem PageAt.byte {w : World} {b : Nat} {p : List UInt8} {a k : Nat} {s : ByteArray} (hp : p.length = 64) (h : PageAt w b (Pg.over p a (s.data.toList.take k))) (hk : k < s.size) (ha : a + s.size ≤ 64) :
    PageAt (w.setCell ⟨b, a + k, none⟩ (.int .u8 (s[k].toNat : Int))) b (Pg.over p a (s.data.toList.take (k + 1))) := by
  have hl : (s.data.toList.take k).length = k := by simp; omega
  have := h.set (a + k) s[k] (by omega)
  rw [byte_at s k hk, ← Pg.over_set_behind p a _ _ (by rw [hl]; omega), hl]
  exact this
set_option maxHeartbeats 1000000 in
theorem refSetText_yes (p : List UInt8) (a : Nat) (s : ByteArray) (w : World) (hp : p.length = 64) (h : a + s.size ≤ 64) :
    Calls Try.prog 27 #[pageV p, .int .i64 (a : Int), .string s] w fun e w' => e = .returned (pageV (Pg.over p a s.data.toList)) ∧ Below w.heap.size w w' := by
  have HS := Lib.hid (set_start w p hp)
  have HL := Lib.hid hp
  have HN : Hid (Pg.insB (a : Int) (s.size : Int) = true) := Lib.hid (Pg.ins_mk (by omega) (by omega) (by omega))
  clear hp
  unfold pageV
  go_enter Try.func27, Try.ntmps27
  go_wp2_with (go_at_call 31; refine (in_yes _ _ _ HN.out).mono ?_; rintro e w' ⟨rfl, rfl⟩)
  rw [← zeroCells_def]
  generalize (w.alloc (.cells (byteVals p).toArray 33)).alloc (.cells zeroCells 33) = w1 at HS ⊢
  go_loopw [7] (fun i wr => ∃ k : Nat, k ≤ s.size ∧ i = .int .i64 k ∧ PageAt wr w.heap.size (Pg.over p a (s.data.toList.take k)) ∧ PageAt wr (w.heap.size + 1) zeros ∧ Below w.heap.size w wr) (fun i _ => s.size - (intOf i).toNat)
  case atStart => exact ⟨0, Nat.zero_le _, rfl, by rw [List.take_zero, Pg.over_nil]; exact HS.out.1, HS.out.2.1, HS.out.2.2⟩
  case round =>
    obtain ⟨k, hk, rfl, hp1, hp2, hbel⟩ := hrel
    by_cases hlt : k < s.size
    · obtain ⟨j, hj⟩ : ∃ j, j = a + k := ⟨a + k, rfl⟩
      have hidx : (a : Int) + (k : Int) = (j : Int) := by omega
      have hc := hp1.cell j (by omega)
      have hf := hp1.frozen j (by omega)
      have hj64 : j < 64 := by omega
      have HJ := Lib.hid hj
      have HP1 := Lib.hid hp1
      clear hp1 hj
      go_wp2
      go_roundw
      case rel =>
        refine ⟨k + 1, by omega, by go_num, ?_, ?_, ?_⟩
        · rw [HJ.out]; exact HP1.out.byte HL.out hlt h
        · exact hp2.set_other _ _ _ (by omega)
        · exact hbel.setCell (Nat.le_refl _) _
      case measure => simp [intOf]; omega
    · have hk' : s.data.toList.take k = s.data.toList := List.take_of_length_le (by simp; omega)
      rw [hk'] at hp1
      have HP1 := Lib.hid hp1
      clear hp1 hk'
      go_wp2_with (first
        | (with_reducible refine wpList_load_page HP1.out rfl (.tmp 3) rfl rfl ?_)
        | (with_reducible refine wpList_store_page hp2 HP1.out.len rfl (.tmp 6) (.tmp 27) rfl rfl rfl ?_))
      exact bodyPost_ret (results_page _ 6 rfl _ (hp2.put _ HP1.out.len) rfl) rfl ⟨rfl, below_setCells _ (by omega) _ _ _ hbel⟩
set_option maxHeartbeats 1000000 in
theorem refSetText_no (p : List UInt8) (a : Int) (s : ByteArray) (w : World) (hp : p.length = 64) (h : Pg.insB a s.size = false) :
    Calls Try.prog 27 #[pageV p, .int .i64 a, .string s] w fun e w' => e = .returned (pageV p) ∧ Below w.heap.size w w' := by
  have hs := set_start w p hp
  rw [zeroCells_def] at hs
  have HS := Lib.hid hs
  have HN := Lib.hid h
  have HL := Lib.hid hp
  clear hp hs h
  unfold pageV
  go_enter Try.func27, Try.ntmps27
  go_wp2_with (first
    | (go_at_call 31; refine (in_no _ _ _ HN.out).mono ?_; rintro e w' ⟨rfl, rfl⟩)
    | (with_reducible refine wpList_load_page HS.out.1 rfl (.tmp 3) rfl rfl ?_)
    | (with_reducible refine wpList_store_page HS.out.2.1 HL.out rfl (.tmp 6) (.tmp 13) rfl rfl rfl ?_))
  exact bodyPost_ret (results_page _ 6 rfl _ (HS.out.2.1.put _ HL.out) rfl) rfl ⟨rfl, below_setCells _ (by omega) _ _ _ HS.out.2.2⟩
theorem refSetText_any (p : List UInt8) (a : Int) (s : ByteArray) (w : World) (hp : p.length = 64) :
    Calls Try.prog 27 #[pageV p, .int .i64 a, .string s] w fun e w' => e = .returned (pageV (Pg.setTextN p a s.data.toList)) ∧ Below w.heap.size w w' := by
  have hlen : (s.data.toList.length : Int) = (s.size : Int) := by simp
  by_cases h : Pg.insB a s.size = true
  · obtain ⟨c1, c2, c3⟩ := Pg.ins_yes h
    obtain ⟨A, rfl⟩ := Int.eq_ofNat_of_zero_le c1
    have := refSetText_yes p A s w hp (by omega)
    unfold Pg.setTextN
    rw [hlen, if_pos h]
    exact this
  · have := refSetText_no p a s w hp (by simpa using h)
    unfold Pg.setTextN
    rw [hlen, if_neg h]
    exact this
end Go.Proofs.Yteajegplbmadiaa
