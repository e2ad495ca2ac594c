/-
  The contract of inode.Put.
-/
import Derived.Test.YtchlhnpnenafnaaIclr
namespace Go.Proofs.Ytchlhnpnenafnaa
open Go.RowKit
open Ii (Ino)

set_option maxRecDepth 100000 in
set_option maxHeartbeats 4000000 in
theorem put_0 (p : List UInt8) (x : Ino) (w : World) (hp : p.length = 64) :
    Calls Try.prog 7 #[pageV p, .int .i64 0, inoV x] w fun e w' => e = .returned (pageV (Ii.putN p 0 x)) ∧ Below w.heap.size w w' := by
  have hs := putS_box w p x 26 hp
  rw [zeroCells_def] at hs
  have HS := Lib.hid hs; clear hs
  have HL := Lib.hid (Ii.putN_length p 0 x hp (by decide))
  clear hp
  unfold pageV inoV
  go_enter Try.func7, Try.ntmps7
  go_wp2_with fail
  refine (isThere_yes _ _ (by decide) (by decide)).mono ?_
  rintro e w1 ⟨rfl, hw⟩
  have S : Hid (PutS w p zeros x w1) := Lib.hid (by rw [← hw]; exact HS.out)
  clear hw HS
  have hsl : (Instr.sliceAt 23 (.pointer (some ⟨w.heap.size, 0, none⟩)) (some (.int .i64 0)) (some (.int .i64 32)) none).run Try.prog w1 = .ok (.slice (some ⟨w.heap.size, 0, none⟩) 32 64) w1 := run_slice_page w1 w.heap.size 0 32 (by decide) (by decide)
  go_wp2_with (first
    | ((with_reducible refine wpList_clear_put S.out 0 (by decide) 64 rfl (.tmp 19) _ rfl rfl rfl rfl ?_ ?_); (exact rfl); clear hsl; intro W2 S2; replace S := Lib.hid S2; clear S2; have hc := S.out.ino.cell 0 _ rfl)
    | (with_reducible refine wpList_load_page S.out.page rfl (.tmp 3) rfl rfl ?_)
    | (go_at_call 16; refine (set_len _ _ _ _ _ S.out.page.len (by decide) (by decide)).mono ?_; rintro e w' ⟨⟨rfl, hl⟩, hb⟩; have L := Lib.hid hl; clear hl; clear hc; replace S := Lib.hid (S.out.call hb); clear hb)
    | ((with_reducible refine wpList_store_put S.out L.out rfl (.tmp 3) (.tmp 25) rfl rfl ?_ ?_); (exact rfl); intro W2 S2; replace S := Lib.hid S2; clear S2 L; have hc := S.out.ino.cell 1 _ rfl)
    | ((with_reducible refine wpList_store_put S.out L.out rfl (.tmp 3) (.tmp 31) rfl rfl ?_ ?_); (exact rfl); intro W2 S2; replace S := Lib.hid S2; clear S2 L; have hc := S.out.ino.cell 2 _ rfl)
    | ((with_reducible refine wpList_store_put S.out L.out rfl (.tmp 3) (.tmp 37) rfl rfl ?_ ?_); (exact rfl); intro W2 S2; replace S := Lib.hid S2; clear S2 L; have hc := S.out.ino.cell 3 _ rfl)
    | ((with_reducible refine wpList_store_put S.out L.out rfl (.tmp 3) (.tmp 43) rfl rfl ?_ ?_); (exact rfl); intro W2 S2; replace S := Lib.hid S2; clear S2 L; have hc := S.out.ino.cell 4 _ rfl)
    | ((with_reducible refine wpList_store_put S.out L.out rfl (.tmp 3) (.tmp 49) rfl rfl ?_ ?_); (exact rfl); intro W2 S2; replace S := Lib.hid S2; clear S2 L)
    | (with_reducible refine wpList_load_four S.out.ino rfl (.tmp 50) rfl rfl ?_))
  replace S : Hid (PutS w (Ii.dirP p 0 x 0) zeros x W2) := S
  go_loopw [52] (fun i wr => ∃ k : Nat, k ≤ 4 ∧ i = .int .i64 (k : Int) ∧ PutS w (Ii.dirP p 0 x k) zeros x wr) (fun i _ => 4 - (intOf i).toNat)
  case atStart => exact ⟨0, by omega, rfl, S.out⟩
  case round =>
    clear S
    obtain ⟨k, hk, rfl, hS⟩ := hrel
    have hk : k = 0 ∨ k = 1 ∨ k = 2 ∨ k = 3 ∨ k = 4 := by omega
    rcases hk with rfl | rfl | rfl | rfl | rfl
    · have S := Lib.hid hS
      clear hS
      have hix := fun W => index_four0 x W
      go_wp2_with (first
      | (with_reducible refine wpList_load_page S.out.page rfl (.tmp 3) rfl rfl ?_)
      | (go_at_call 16; refine (set_len _ _ _ _ _ S.out.page.len (by decide) (by decide)).mono ?_; rintro e w' ⟨⟨rfl, hl⟩, hb⟩; have L := Lib.hid hl; clear hl; replace S := Lib.hid (S.out.call hb); clear hb)
      | ((with_reducible refine wpList_store_put S.out L.out rfl (.tmp 3) (.tmp 63) rfl rfl ?_ ?_); (exact rfl); intro W2 S2; replace S := Lib.hid S2; clear S2 L))
      go_roundw
      case rel => exact ⟨1, by omega, rfl, S.out⟩
      case measure => simp [intOf]
    · have S := Lib.hid hS
      clear hS
      have hix := fun W => index_four1 x W
      go_wp2_with (first
      | (with_reducible refine wpList_load_page S.out.page rfl (.tmp 3) rfl rfl ?_)
      | (go_at_call 16; refine (set_len _ _ _ _ _ S.out.page.len (by decide) (by decide)).mono ?_; rintro e w' ⟨⟨rfl, hl⟩, hb⟩; have L := Lib.hid hl; clear hl; replace S := Lib.hid (S.out.call hb); clear hb)
      | ((with_reducible refine wpList_store_put S.out L.out rfl (.tmp 3) (.tmp 63) rfl rfl ?_ ?_); (exact rfl); intro W2 S2; replace S := Lib.hid S2; clear S2 L))
      go_roundw
      case rel => exact ⟨2, by omega, rfl, S.out⟩
      case measure => simp [intOf]
    · have S := Lib.hid hS
      clear hS
      have hix := fun W => index_four2 x W
      go_wp2_with (first
      | (with_reducible refine wpList_load_page S.out.page rfl (.tmp 3) rfl rfl ?_)
      | (go_at_call 16; refine (set_len _ _ _ _ _ S.out.page.len (by decide) (by decide)).mono ?_; rintro e w' ⟨⟨rfl, hl⟩, hb⟩; have L := Lib.hid hl; clear hl; replace S := Lib.hid (S.out.call hb); clear hb)
      | ((with_reducible refine wpList_store_put S.out L.out rfl (.tmp 3) (.tmp 63) rfl rfl ?_ ?_); (exact rfl); intro W2 S2; replace S := Lib.hid S2; clear S2 L))
      go_roundw
      case rel => exact ⟨3, by omega, rfl, S.out⟩
      case measure => simp [intOf]
    · have S := Lib.hid hS
      clear hS
      have hix := fun W => index_four3 x W
      go_wp2_with (first
      | (with_reducible refine wpList_load_page S.out.page rfl (.tmp 3) rfl rfl ?_)
      | (go_at_call 16; refine (set_len _ _ _ _ _ S.out.page.len (by decide) (by decide)).mono ?_; rintro e w' ⟨⟨rfl, hl⟩, hb⟩; have L := Lib.hid hl; clear hl; replace S := Lib.hid (S.out.call hb); clear hb)
      | ((with_reducible refine wpList_store_put S.out L.out rfl (.tmp 3) (.tmp 63) rfl rfl ?_ ?_); (exact rfl); intro W2 S2; replace S := Lib.hid S2; clear S2 L))
      go_roundw
      case rel => exact ⟨4, by omega, rfl, S.out⟩
      case measure => simp [intOf]
    · have S := Lib.hid hS
      clear hS
      have hc := S.out.ino.cell 9 _ rfl
      go_wp2_with (first
      | (with_reducible refine wpList_load_page S.out.page rfl (.tmp 3) rfl rfl ?_)
      | (go_at_call 16; refine (set_len _ _ _ _ _ S.out.page.len (by decide) (by decide)).mono ?_; rintro e w' ⟨⟨rfl, hl⟩, hb⟩; have L := Lib.hid hl; clear hl; clear hc; replace S := Lib.hid (S.out.call hb); clear hb)
      | ((with_reducible refine wpList_store_put S.out L.out rfl (.tmp 3) (.tmp 70) rfl rfl ?_ ?_); (exact rfl); intro W2 S2; replace S := Lib.hid S2; clear S2 L; have hc := S.out.ino.cell 10 _ rfl)
      | ((with_reducible refine wpList_store_page S.out.out HL.out rfl (.tmp 6) (.tmp 76) rfl rfl ?_ ?_); (exact rfl)))
      exact bodyPost_ret (results_page _ 6 rfl _ (S.out.back HL.out).1 rfl) rfl ⟨rfl, (S.out.back HL.out).2⟩
set_option maxRecDepth 100000 in
set_option maxHeartbeats 4000000 in
theorem put_1 (p : List UInt8) (x : Ino) (w : World) (hp : p.length = 64) :
    Calls Try.prog 7 #[pageV p, .int .i64 1, inoV x] w fun e w' => e = .returned (pageV (Ii.putN p 32 x)) ∧ Below w.heap.size w w' := by
  have hs := putS_box w p x 26 hp
  rw [zeroCells_def] at hs
  have HS := Lib.hid hs; clear hs
  have HL := Lib.hid (Ii.putN_length p 32 x hp (by decide))
  clear hp
  unfold pageV inoV
  go_enter Try.func7, Try.ntmps7
  go_wp2_with fail
  refine (isThere_yes _ _ (by decide) (by decide)).mono ?_
  rintro e w1 ⟨rfl, hw⟩
  have S : Hid (PutS w p zeros x w1) := Lib.hid (by rw [← hw]; exact HS.out)
  clear hw HS
  have hsl : (Instr.sliceAt 23 (.pointer (some ⟨w.heap.size, 0, none⟩)) (some (.int .i64 32)) (some (.int .i64 64)) none).run Try.prog w1 = .ok (.slice (some ⟨w.heap.size, 32, none⟩) 32 32) w1 := run_slice_page w1 w.heap.size 32 32 (by decide) (by decide)
  go_wp2_with (first
    | ((with_reducible refine wpList_clear_put S.out 32 (by decide) 32 rfl (.tmp 19) _ rfl rfl rfl rfl ?_ ?_); (exact rfl); clear hsl; intro W2 S2; replace S := Lib.hid S2; clear S2; have hc := S.out.ino.cell 0 _ rfl)
    | (with_reducible refine wpList_load_page S.out.page rfl (.tmp 3) rfl rfl ?_)
    | (go_at_call 16; refine (set_len _ _ _ _ _ S.out.page.len (by decide) (by decide)).mono ?_; rintro e w' ⟨⟨rfl, hl⟩, hb⟩; have L := Lib.hid hl; clear hl; clear hc; replace S := Lib.hid (S.out.call hb); clear hb)
    | ((with_reducible refine wpList_store_put S.out L.out rfl (.tmp 3) (.tmp 25) rfl rfl ?_ ?_); (exact rfl); intro W2 S2; replace S := Lib.hid S2; clear S2 L; have hc := S.out.ino.cell 1 _ rfl)
    | ((with_reducible refine wpList_store_put S.out L.out rfl (.tmp 3) (.tmp 31) rfl rfl ?_ ?_); (exact rfl); intro W2 S2; replace S := Lib.hid S2; clear S2 L; have hc := S.out.ino.cell 2 _ rfl)
    | ((with_reducible refine wpList_store_put S.out L.out rfl (.tmp 3) (.tmp 37) rfl rfl ?_ ?_); (exact rfl); intro W2 S2; replace S := Lib.hid S2; clear S2 L; have hc := S.out.ino.cell 3 _ rfl)
    | ((with_reducible refine wpList_store_put S.out L.out rfl (.tmp 3) (.tmp 43) rfl rfl ?_ ?_); (exact rfl); intro W2 S2; replace S := Lib.hid S2; clear S2 L; have hc := S.out.ino.cell 4 _ rfl)
    | ((with_reducible refine wpList_store_put S.out L.out rfl (.tmp 3) (.tmp 49) rfl rfl ?_ ?_); (exact rfl); intro W2 S2; replace S := Lib.hid S2; clear S2 L)
    | (with_reducible refine wpList_load_four S.out.ino rfl (.tmp 50) rfl rfl ?_))
  replace S : Hid (PutS w (Ii.dirP p 32 x 0) zeros x W2) := S
  go_loopw [52] (fun i wr => ∃ k : Nat, k ≤ 4 ∧ i = .int .i64 (k : Int) ∧ PutS w (Ii.dirP p 32 x k) zeros x wr) (fun i _ => 4 - (intOf i).toNat)
  case atStart => exact ⟨0, by omega, rfl, S.out⟩
  case round =>
    clear S
    obtain ⟨k, hk, rfl, hS⟩ := hrel
    have hk : k = 0 ∨ k = 1 ∨ k = 2 ∨ k = 3 ∨ k = 4 := by omega
    rcases hk with rfl | rfl | rfl | rfl | rfl
    · have S := Lib.hid hS
      clear hS
      have hix := fun W => index_four0 x W
      go_wp2_with (first
      | (with_reducible refine wpList_load_page S.out.page rfl (.tmp 3) rfl rfl ?_)
      | (go_at_call 16; refine (set_len _ _ _ _ _ S.out.page.len (by decide) (by decide)).mono ?_; rintro e w' ⟨⟨rfl, hl⟩, hb⟩; have L := Lib.hid hl; clear hl; replace S := Lib.hid (S.out.call hb); clear hb)
      | ((with_reducible refine wpList_store_put S.out L.out rfl (.tmp 3) (.tmp 63) rfl rfl ?_ ?_); (exact rfl); intro W2 S2; replace S := Lib.hid S2; clear S2 L))
      go_roundw
      case rel => exact ⟨1, by omega, rfl, S.out⟩
      case measure => simp [intOf]
    · have S := Lib.hid hS
      clear hS
      have hix := fun W => index_four1 x W
      go_wp2_with (first
      | (with_reducible refine wpList_load_page S.out.page rfl (.tmp 3) rfl rfl ?_)
      | (go_at_call 16; refine (set_len _ _ _ _ _ S.out.page.len (by decide) (by decide)).mono ?_; rintro e w' ⟨⟨rfl, hl⟩, hb⟩; have L := Lib.hid hl; clear hl; replace S := Lib.hid (S.out.call hb); clear hb)
      | ((with_reducible refine wpList_store_put S.out L.out rfl (.tmp 3) (.tmp 63) rfl rfl ?_ ?_); (exact rfl); intro W2 S2; replace S := Lib.hid S2; clear S2 L))
      go_roundw
      case rel => exact ⟨2, by omega, rfl, S.out⟩
      case measure => simp [intOf]
    · have S := Lib.hid hS
      clear hS
      have hix := fun W => index_four2 x W
      go_wp2_with (first
      | (with_reducible refine wpList_load_page S.out.page rfl (.tmp 3) rfl rfl ?_)
      | (go_at_call 16; refine (set_len _ _ _ _ _ S.out.page.len (by decide) (by decide)).mono ?_; rintro e w' ⟨⟨rfl, hl⟩, hb⟩; have L := Lib.hid hl; clear hl; replace S := Lib.hid (S.out.call hb); clear hb)
      | ((with_reducible refine wpList_store_put S.out L.out rfl (.tmp 3) (.tmp 63) rfl rfl ?_ ?_); (exact rfl); intro W2 S2; replace S := Lib.hid S2; clear S2 L))
      go_roundw
      case rel => exact ⟨3, by omega, rfl, S.out⟩
      case measure => simp [intOf]
    · have S := Lib.hid hS
      clear hS
      have hix := fun W => index_four3 x W
      go_wp2_with (first
      | (with_reducible refine wpList_load_page S.out.page rfl (.tmp 3) rfl rfl ?_)
      | (go_at_call 16; refine (set_len _ _ _ _ _ S.out.page.len (by decide) (by decide)).mono ?_; rintro e w' ⟨⟨rfl, hl⟩, hb⟩; have L := Lib.hid hl; clear hl; replace S := Lib.hid (S.out.call hb); clear hb)
      | ((with_reducible refine wpList_store_put S.out L.out rfl (.tmp 3) (.tmp 63) rfl rfl ?_ ?_); (exact rfl); intro W2 S2; replace S := Lib.hid S2; clear S2 L))
      go_roundw
      case rel => exact ⟨4, by omega, rfl, S.out⟩
      case measure => simp [intOf]
    · have S := Lib.hid hS
      clear hS
      have hc := S.out.ino.cell 9 _ rfl
      go_wp2_with (first
      | (with_reducible refine wpList_load_page S.out.page rfl (.tmp 3) rfl rfl ?_)
      | (go_at_call 16; refine (set_len _ _ _ _ _ S.out.page.len (by decide) (by decide)).mono ?_; rintro e w' ⟨⟨rfl, hl⟩, hb⟩; have L := Lib.hid hl; clear hl; clear hc; replace S := Lib.hid (S.out.call hb); clear hb)
      | ((with_reducible refine wpList_store_put S.out L.out rfl (.tmp 3) (.tmp 70) rfl rfl ?_ ?_); (exact rfl); intro W2 S2; replace S := Lib.hid S2; clear S2 L; have hc := S.out.ino.cell 10 _ rfl)
      | ((with_reducible refine wpList_store_page S.out.out HL.out rfl (.tmp 6) (.tmp 76) rfl rfl ?_ ?_); (exact rfl)))
      exact bodyPost_ret (results_page _ 6 rfl _ (S.out.back HL.out).1 rfl) rfl ⟨rfl, (S.out.back HL.out).2⟩
set_option maxHeartbeats 1000000 in
theorem put_no (p : List UInt8) (h : Int) (x : Ino) (w : World) (hp : p.length = 64) (hh : h < 0 ∨ 2 ≤ h) :
    Calls Try.prog 7 #[pageV p, .int .i64 h, inoV x] w fun e w' => e = .returned (pageV p) ∧ Below w.heap.size w w' := by
  have hs := putS_box w p x 26 hp
  rw [zeroCells_def] at hs
  have HS := Lib.hid hs; clear hs
  have HL := Lib.hid hp
  clear hp
  unfold pageV inoV
  go_enter Try.func7, Try.ntmps7
  go_wp2_with fail
  refine (isThere_no _ _ hh).mono ?_
  rintro e w1 ⟨rfl, hw⟩
  have S : Hid (PutS w p zeros x w1) := Lib.hid (by rw [← hw]; exact HS.out)
  clear hw HS
  go_wp2_with (first
    | (with_reducible refine wpList_load_page S.out.page rfl (.tmp 3) rfl rfl ?_)
    | ((with_reducible refine wpList_store_page S.out.out HL.out rfl (.tmp 6) (.tmp 13) rfl rfl ?_ ?_); (exact rfl)))
  exact bodyPost_ret (results_page _ 6 rfl _ (S.out.back HL.out).1 rfl) rfl ⟨rfl, (S.out.back HL.out).2⟩
end Go.Proofs.Ytchlhnpnenafnaa
