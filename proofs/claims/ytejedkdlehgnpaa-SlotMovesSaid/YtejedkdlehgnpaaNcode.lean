/-
  The contracts of slot.Put and slot.Get at any place.
-/
import Derived.Test.YtejedkdlehgnpaaNget
namespace Go.Proofs.Ytejedkdlehgnpaa
open Go.RowKit

theorem strOf_list (l : List UInt8) : (strOf l).data.toList = l := rfl
/-- the page that Put gives -/
def putF (p : List UInt8) (i : Int) (n : Int) (s : List UInt8) : List UInt8 := if thereB i = true ∧ Nm.standB n s = true then Nm.lay p i.toNat (Nm.slot n s) else p
theorem there_nat {i : Int} (h : thereB i = true) : ∃ k : Nat, i = (k : Int) ∧ k < 4 := by
  have := of_decide_eq_true h
  exact ⟨i.toNat, by omega, by omega⟩
theorem putF_length {p : List UInt8} (hp : p.length = 64) (i n : Int) (s : List UInt8) : (putF p i n s).length = 64 := by
  unfold putF
  split
  · rename_i h
    obtain ⟨k, rfl, hk⟩ := there_nat h.1
    exact Nm.lay_length hp (by omega) (Nm.slot_length _ (Nm.stand_bd h.2).2.2)
  · exact hp
set_option maxRecDepth 100000 in
set_option maxHeartbeats 1000000 in
theorem put_far (p : List UInt8) (i n : Int) (s : ByteArray) (w : World) (hp : p.length = 64) (h : thereB i = false) :
    Calls Try.prog 13 #[pageV p, .int .i64 i, entV n s] w fun e w' => e = .returned (pageV p) ∧ Below w.heap.size w w' := by
  have hs := putS_box w p n s hp
  rw [zeroCells_def] at hs
  have S := Lib.hid hs; clear hs
  have L := Lib.hid hp; clear hp
  have HT := Lib.hid (fun w => isThere_any i w)
  rw [h] at HT
  clear h
  unfold pageV entV
  go_enter Try.func13, Try.ntmps13
  go_wp2_with (first
    | (go_at_call 20; refine (HT.out _).mono ?_; rintro e w' ⟨rfl, rfl⟩)
    | (with_reducible refine wpList_load_page S.out.page rfl (.tmp 3) rfl rfl ?_)
    | ((with_reducible refine wpList_store_page S.out.out L.out rfl (.tmp 6) (.tmp 16) rfl rfl ?_ ?_); (exact rfl)))
  exact bodyPost_ret (results_page _ 6 rfl _ (S.out.back p L.out).1 rfl) rfl ⟨rfl, (S.out.back p L.out).2⟩
set_option maxRecDepth 100000 in
set_option maxHeartbeats 1000000 in
theorem put_wrong (p : List UInt8) (i n : Int) (s : ByteArray) (w : World) (hp : p.length = 64) (h : thereB i = true) (hn : Nm.standB n s.data.toList = false) (hm : s.size ≤ maxLen) :
    Calls Try.prog 13 #[pageV p, .int .i64 i, entV n s] w fun e w' => e = .returned (pageV p) ∧ Below w.heap.size w w' := by
  have hs := putS_box w p n s hp
  rw [zeroCells_def] at hs
  have HS := Lib.hid hs; clear hs
  have L := Lib.hid hp; clear hp
  have HT := Lib.hid (fun w => isThere_any i w)
  rw [h] at HT
  have HM := Lib.hid (fun w => stand_any n s w hm)
  rw [hn] at HM
  clear h hn hm
  unfold pageV entV
  go_enter Try.func13, Try.ntmps13
  go_wp2_with (first
    | (go_at_call 20; refine (HT.out _).mono ?_; rintro e w' ⟨rfl, rfl⟩)
    | (go_at_call 21; refine (HM.out _).mono ?_; rintro e w2 ⟨rfl, hb⟩; have S := Lib.hid (HS.out.call hb); clear hb HS)
    | (with_reducible refine wpList_load_page S.out.page rfl (.tmp 3) rfl rfl ?_)
    | ((with_reducible refine wpList_store_page S.out.out L.out rfl (.tmp 6) (.tmp 16) rfl rfl ?_ ?_); (exact rfl)))
  exact bodyPost_ret (results_page _ 6 rfl _ (S.out.back p L.out).1 rfl) rfl ⟨rfl, (S.out.back p L.out).2⟩
theorem put_any (p : List UInt8) (i n : Int) (s : ByteArray) (w : World) (hp : p.length = 64) (hm : s.size ≤ maxLen) :
    Calls Try.prog 13 #[pageV p, .int .i64 i, entV n s] w fun e w' => e = .returned (pageV (putF p i n s.data.toList)) ∧ Below w.heap.size w w' := by
  cases h : thereB i with
  | false =>
    unfold putF
    rw [if_neg (fun k => by rw [h] at k; cases k.1)]
    exact put_far p i n s w hp h
  | true =>
    cases hn : Nm.standB n s.data.toList with
    | false =>
      unfold putF
      rw [if_neg (fun k => by rw [hn] at k; cases k.2)]
      exact put_wrong p i n s w hp h hn hm
    | true =>
      unfold putF
      rw [if_pos ⟨h, hn⟩]
      obtain ⟨k, rfl, hk⟩ := there_nat h
      have := put_yes p (k : Int) (16 * k) n s w hp (by omega) (by omega) (by omega) hn hm
      rw [Int.toNat_natCast, ← Nm.put4_eq hp hk n (Nm.stand_bd hn).2.2]
      unfold Nm.put4 Nm.put3 Nm.put2 Nm.put1
      rw [size_list]
      exact this

/-- what Get answers -/
def errI (o : Option (Int × List UInt8)) : Int := if o.isSome = true then 0 else 5
set_option maxRecDepth 100000 in
set_option maxHeartbeats 1000000 in
theorem get_far (p : List UInt8) (i : Int) (w : World) (hp : p.length = 64) (h : thereB i = false) :
    Calls Try.prog 14 #[pageV p, .int .i64 i] w fun e w' => e = .returned (.tuple #[entV 0 ⟨#[]⟩, .int .i64 22]) ∧ Below w.heap.size w w' := by
  have S := Lib.hid (bxS_box w p 23 hp)
  have HT := Lib.hid (fun w => isThere_any i w)
  rw [h] at HT
  clear h hp
  unfold pageV
  go_enter Try.func14, Try.ntmps14
  go_wp2_with fail
  refine (HT.out _).mono ?_
  rintro e w1 ⟨rfl, hw⟩
  have S1 : Hid (BxS w p w1) := Lib.hid (by rw [← hw]; exact S.out)
  clear hw S
  go_wp2_with ((with_reducible refine wpList_store_row entT (vs := entL 0 ⟨#[]⟩) S1.out.out (entL_len _ _) (entL_len _ _) (entL_one _ _) rfl (.tmp 4) (.tmp 12) rfl rfl ?_ ?_); (exact rfl))
  exact bodyPost_ret (results_row2 entT _ 4 5 rfl _ (S1.out.back _ _).1 rfl rfl rfl) rfl ⟨rfl, (S1.out.back _ _).2⟩
theorem get_at (p : List UInt8) (k : Nat) (w : World) (hp : p.length = 64) (hk : k < 4) :
    Calls Try.prog 14 #[pageV p, .int .i64 (k : Int)] w fun e w' => e = .returned (.tuple #[entV (Nm.entN (Nm.ent (Nm.at_ p k))) (strOf (Nm.entS (Nm.ent (Nm.at_ p k)))), .int .i64 (errI (Nm.ent (Nm.at_ p k)))]) ∧ Below w.heap.size w w' := by
  have hb := Nm.len_bd hp hk
  have hl : (strOf (Nm.name p k)).size ≤ maxLen := by
    rw [strOf_size]
    have := Nm.name_length hp k
    unfold maxLen
    omega
  have C1 := Lib.hid (fun w => get_any p (((16 * k : Nat) : Int) + 2) 1 w hp (by decide) (by decide))
  have C2 := Lib.hid (fun w => get_any p ((16 * k : Nat) : Int) 2 w hp (by decide) (by decide))
  have C3 := Lib.hid (fun w => text_any p (((16 * k : Nat) : Int) + 3) (Nm.len p k) w hp (by omega) (by omega))
  have HM := Lib.hid (fun w => stand_any (Nm.num p k) (strOf (Nm.name p k)) w hl)
  rw [strOf_list] at HM
  rw [Nm.ent_code hp hk]
  cases hs : Nm.standB (Nm.num p k) (Nm.name p k) with
  | false =>
    rw [if_neg (fun h => by cases h.1)]
    rw [hs] at HM
    exact get_bad p (k : Int) (16 * k) (Nm.len p k) (Nm.num p k) (strOf (Nm.name p k)) w hp (by omega) (by omega) (by omega) C1 C2 C3 HM
  | true =>
    rw [hs] at HM
    have hn : Nm.standB (Nm.num p k) (strOf (Nm.name p k)).data.toList = true := by rw [strOf_list]; exact hs
    have C4 := Lib.hid (fun w => put_yes p (k : Int) (16 * k) (Nm.num p k) (strOf (Nm.name p k)) w hp (by omega) (by omega) (by omega) hn hl)
    have he : Pg.setTextN (Pg.setN (Pg.setN (Pg.over p (16 * k) (Nm.zs 16)) (16 * k : Nat) 2 (Nm.num p k)) (((16 * k : Nat) : Int) + 2) 1 (strOf (Nm.name p k)).size) (((16 * k : Nat) : Int) + 3) (strOf (Nm.name p k)).data.toList = Nm.put4 p k (Nm.num p k) (Nm.name p k) := by
      rw [strOf_list, strOf_size]
      rfl
    rw [he] at C4
    have hq := Nm.put4_length hp hk (Nm.num p k) (Nm.name p k)
    have := get_other p (k : Int) (16 * k) (Nm.len p k) (Nm.num p k) (strOf (Nm.name p k)) (Nm.put4 p k (Nm.num p k) (Nm.name p k)) _ w hp (by omega) (by omega) (by omega) C1 C2 C3 HM C4 hq rfl
    by_cases hqp : Nm.put4 p k (Nm.num p k) (Nm.name p k) = p
    · rw [if_pos ⟨rfl, hqp⟩]
      rw [decide_eq_true hqp] at this
      exact this
    · rw [if_neg (fun h => hqp h.2)]
      rw [decide_eq_false hqp] at this
      exact this
end Go.Proofs.Ytejedkdlehgnpaa
