/-
  The project's own Encode.
-/
import Derived.Test.YteobdjgodljjmaaYrow
import Derived.Test.YteobdjgodljjmaaYwrite
namespace Go.Proofs.Yteobdjgodljjmaa
open Go.RowKit Go.Maps

/-- between the rounds of Encode: a builder in block B with what has been written -/
structure EncS (w0 : World) (B : Nat) (l : List UInt8) (W : World) : Prop where
  bld : Pq.Built B B l W
  bel : Below w0.heap.size w0 W
  sz : w0.heap.size ≤ B ∧ B ≤ W.heap.size
theorem built_step {B b : Nat} {l : List UInt8} {w w' : World} (h : Pq.Built B b l w) (hb : Below w.heap.size w w') : Pq.Built B b l w' := by
  obtain ⟨hB, v, hbk, hown, hne⟩ := h
  exact ⟨hB, v, (hb.block b (Array.getElem?_eq_some_iff.1 hbk).1).trans hbk, owns_below hown hb, hne⟩
theorem EncS.call {w0 : World} {B : Nat} {l : List UInt8} {W W' : World} (k : EncS w0 B l W) (hb : Below W.heap.size W W') : EncS w0 B l W' := ⟨built_step k.bld hb, k.bel.trans (hb.mono k.bel.size), by have := k.sz; have := hb.size; omega⟩
theorem EncS.wrote {w0 : World} {B : Nat} {l l' : List UInt8} {W W' : World} (k : EncS w0 B l W) (h : Pq.Built B B l' W') (hb : Below B W W') : EncS w0 B l' W' := ⟨h, k.bel.trans (hb.mono k.sz.1), by have := k.sz; have := hb.size; omega⟩
theorem bytes_snoc (xs : List Y.In) (k : Nat) (x : Y.In) (h : xs[k]? = some x) : Y.bytes (xs.take (k + 1)) = Y.bytes (xs.take k) ++ Y.bytes1 x := by
  obtain ⟨hk, he⟩ := List.getElem?_eq_some_iff.1 h
  rw [List.take_succ_eq_append_getElem hk, Y.bytes_app, he]
  congr 1
theorem grow_start (w w1 : World) (hb : Below w.heap.size w w1) (n : Nat) (hn : n ≤ 64) : Calls Try.prog 20 #[.pointer (some ⟨w1.heap.size, 0, none⟩), .int .i64 (8 * (n : Int))] (w1.alloc (.cells #[.pointer none, .slice none 0 0] 48)) fun e w' => e = .returned (.tuple #[]) ∧ EncS w w1.heap.size [] w' := by
  have h8 : ((8 * n : Nat) : Int) = 8 * (n : Int) := by omega
  rw [← h8]
  refine (Pq.grow_new w1.heap.size w1.heap.size (8 * n) _ (Nat.le_refl _) (heap_alloc_new w1 _) (by simp) (by omega)).mono ?_
  rintro e w' ⟨rfl, h1, h2⟩
  exact ⟨rfl, h1, (hb.alloc hb.size _).trans (h2.mono hb.size), hb.size, by have := h2.size; simp at this; omega⟩
theorem write_more (w0 : World) (B : Nat) (l : List UInt8) (s : ByteArray) (m : List UInt8) (hs : s.data.toList = m) (hm : m.length = 8) (hl : l.length ≤ 1000) (w : World) (S : EncS w0 B l w) : Calls Try.prog 21 #[.pointer (some ⟨B, 0, none⟩), .string s] w fun e w' => e = .returned (.tuple #[.int .i64 (s.size : Int), .nilIface]) ∧ EncS w0 B (l ++ m) w' := by
  have e : s.size = m.length := by rw [← hs, Array.length_toList]; rfl
  refine (Pq.writeString_b B B l s w S.bld (by omega) (by omega) S.sz.2).mono ?_
  rintro e w' ⟨rfl, h1, h2⟩
  rw [hs] at h1
  exact ⟨rfl, S.wrote h1 h2⟩
set_option maxHeartbeats 2000000 in
theorem encode_any (A : Option Addr) (n c : Nat) (xs : List Y.In) (w : World) (h : InsAt w A n xs) (hn : n ≤ maxLen) :
    Calls Try.prog 10 #[.slice A n c] w fun e w' => e = .returned (.tuple #[.string (encT xs), .int .i64 (encE xs)]) ∧ Below w.heap.size w w' := by
  have HR := Lib.hid (right_any A n c xs w h hn)
  have H0 := Lib.hid h
  have HL := Lib.hid h.len
  clear h hn
  unfold encT encE
  cases ha : Y.all xs with
  | false =>
    rw [ha] at HR
    clear ha
    go_enter Try.func10, Try.ntmps10
    go_wp2_with (go_at_call 11; (with_reducible refine HR.out.mono ?_); rintro e w1 ⟨rfl, hb⟩; have B := Lib.hid hb; clear hb)
    go_ret2
    exact ⟨rfl, B.out⟩
  | true =>
    rw [ha] at HR
    have HBD := Lib.hid (Y.all_bd ha)
    have hn := (Y.all_len ha)
    rw [HL.out] at hn
    have hn1 := hn.1
    have hn2 := hn.2
    have hw8 : IntKind.i64.wrap ((n : Int) * 8) = 8 * (n : Int) := by rw [IntKind.wrap_i64]; omega
    have HNE : Hid (Y.bytes xs ≠ []) := Lib.hid (fun e => by have := congrArg List.length e; rw [Y.bytes_length, HL.out] at this; simp at this; omega)
    have HBL : Hid ((Y.bytes xs).length ≤ 1000000) := Lib.hid (by rw [Y.bytes_length, HL.out]; omega)
    clear ha hn
    simp only [if_true]
    go_enter Try.func10, Try.ntmps10
    go_upto_region 4 with (go_at_call 11; (with_reducible refine HR.out.mono ?_); rintro e w1 ⟨rfl, hb⟩; have HG := Lib.hid (grow_start w w1 hb n hn2); clear hb HR)
    go_upto_region 6 with (go_at_call 20; (with_reducible refine HG.out.mono ?_); rintro e w2 ⟨rfl, hS⟩; have S0 := Lib.hid hS; clear hS HG; generalize w1.heap.size = B at S0 ⊢)
    go_loopw [16] (fun i wr => ∃ k : Nat, k ≤ n ∧ i = .int .i64 (k : Int) ∧ Hid (EncS w B (Y.bytes (xs.take k)) wr)) (fun i _ => n - (intOf i).toNat)
    case atStart => exact ⟨0, Nat.zero_le _, rfl, S0⟩
    case round =>
      clear S0
      obtain ⟨k, hk, rfl, S⟩ := hrel
      rename World => wo
      by_cases hlt : k < n
      · obtain ⟨b, off, x, hA, hb, hx, hc⟩ := (H0.out.step S.out.bel).get k hlt
        subst hA
        have HT := Lib.hid (bytes_snoc xs k x hx)
        have HW : Hid (∀ w, Calls Try.prog 22 #[.agg (inL x).toArray] w fun e w' => e = .returned (.string (strOf (Y.bytes1 x))) ∧ Below w.heap.size w w') := Lib.hid (fun w => write_any x (HBD.out x (List.mem_of_getElem? hx)) w)
        have HWM := Lib.hid (write_more w B (Y.bytes (xs.take k)) (strOf (Y.bytes1 x)) (Y.bytes1 x) (by unfold strOf; simp) (Y.bytes1_length x) (by rw [Y.bytes_length, List.length_take]; omega))
        have HC := Lib.hid hc
        have hk0 : (0 : Int) ≤ (k : Int) := by omega
        have hk1 : (k : Int) < (n : Int) := by omega
        clear hx hc hb
        generalize strOf (Y.bytes1 x) = s at HW HWM
        generalize Y.bytes1 x = m at HWM HT
        generalize Y.bytes (xs.take k) = l at HWM HT S
        go_wp2_with (first
          | ((with_reducible refine wpList_load_at inT HC.out (inL_length _) rfl (.tmp 18) rfl ?_ ?_); (exact rfl))
          | ((with_reducible refine wpList_store_newrow inT (vs := inL x) (inL_length _) (inL_one _) rfl (.tmp 6) (.tmp 19) rfl rfl ?_ ?_ ?_); (exact rfl); (exact rfl); intro W4 hP hb hz; have R := Lib.hid hP; replace S := Lib.hid (S.out.call hb); clear hP hb hz; generalize wo.heap.size = G at R ⊢)
          | (with_reducible refine wpList_load_row inT R.out (inL_length _) rfl (.tmp 6) rfl rfl ?_)
          | (go_at_call 22; (with_reducible refine (HW.out _).mono ?_); rintro e w2 ⟨rfl, hb2⟩; replace S := Lib.hid (S.out.call hb2); clear hb2)
          | (go_at_call 21; (with_reducible refine (HWM.out _ S.out).mono ?_); rintro e w3 ⟨rfl, hS⟩; replace S := Lib.hid hS; clear hS))
        rw [← HT.out] at S
        go_roundw
        case rel => exact ⟨k + 1, by omega, by go_num, S⟩
        case measure => (simp [intOf] <;> omega)
      · obtain rfl : k = n := by omega
        have e : xs.take k = xs := List.take_of_length_le (by rw [HL.out]; exact Nat.le_refl _)
        rw [e] at S
        have HS : Hid (∀ w', Below B wo w' → Below w.heap.size w w') := Lib.hid (fun w' h => S.out.bel.trans (h.mono S.out.sz.1))
        have HST : Hid (Calls Try.prog 23 #[.pointer (some ⟨B, 0, none⟩)] wo fun e w' => e = .returned (.string (strOf (Y.bytes xs))) ∧ Below B wo w') := Lib.hid (Pq.string_some B B _ wo S.out.bld HNE.out HBL.out)
        clear e hlt S
        go_wp2_with (go_at_call 23; (with_reducible refine HST.out.mono ?_); rintro e w3 ⟨rfl, hS⟩; have B3 := Lib.hid (HS.out _ hS); clear hS)
        go_ret2
        exact ⟨rfl, B3.out⟩
end Go.Proofs.Yteobdjgodljjmaa
