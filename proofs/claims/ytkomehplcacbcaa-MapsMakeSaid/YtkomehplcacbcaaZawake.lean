/-
  The document's example is answered as it says.
-/
import Derived.Test.YtkomehplcacbcaaZuse
namespace Go.Proofs.Ytkomehplcacbcaa
open Go.RowKit Go.Maps

/-- between the example's calls: an Lru with room 2 -/
def AwS (w : World) (base b : Nat) (l : List Z.En) (W : World) : Prop := ∃ sv, MpAt 62 (kd true) W base b sv 2 l ∧ Below w.heap.size w W ∧ base = w.heap.size
theorem AwS.step {w : World} {base b : Nat} {l l' : List Z.En} {sv sv' : Value} {W W' : World} (h : MpAt 62 (kd true) W base b sv 2 l) (hb : Below w.heap.size w W) (he : base = w.heap.size) (k : MpTo 62 (kd true) W base b sv 2 l' W' sv') : AwS w base b l' W' :=
  ⟨sv', k.at_, hb.trans (k.but.below hb.size (fun x hx => by rw [← he]; exact (h.foot hx).1)), he⟩
theorem aw_put (w : World) (base b : Nat) (l l' : List Z.En) (k : Int) (W : World) (h : AwS w base b l W) (hl : l.length ≤ 2) (hc : Z.putC true 2 l ⟨k, 0, 0, 0, 0⟩ = 0) (hp : Z.putI true 2 l ⟨k, 0, 0, 0, 0⟩ = l') :
    Calls Try.prog 10 #[.pointer (some ⟨b, 0, none⟩), .int .i64 k, .agg #[.int .i64 0, .int .i64 0, .int .i64 0, .int .i64 0]] W fun e w' => e = .returned (.int .i64 0) ∧ AwS w base b l' w' := by
  obtain ⟨sv, hm, hb, he⟩ := h
  have := put_any true base b sv 2 l ⟨k, 0, 0, 0, 0⟩ W hm hl (by decide) (by decide) (by rw [he]; exact hb.size)
  rw [hc, hp] at this
  exact this.mono fun e w' ⟨h1, sv', h2⟩ => ⟨h1, AwS.step hm hb he h2⟩
theorem aw_use (w : World) (base b : Nat) (l l' : List Z.En) (k : Int) (i : Nat) (W : World) (h : AwS w base b l W) (hl : l.length ≤ 2) (x : Z.En) (hp : Z.pos k l = some i) (hx : l[i]? = some x) (hl' : l.eraseIdx i ++ [x] = l') :
    Calls Try.prog 19 #[.pointer (some ⟨b, 0, none⟩), .int .i64 k] W fun e w' => e = .returned (.tuple #[.agg (wordsL x).toArray, .bool true]) ∧ AwS w base b l' w' := by
  obtain ⟨sv, hm, hb, he⟩ := h
  have := use_lru base b sv 2 l k i x W hm (by omega) hp hx (by rw [he]; exact hb.size)
  rw [hl'] at this
  exact this.mono fun e w' ⟨h1, sv', h2⟩ => ⟨h1, AwS.step hm hb he h2⟩
theorem AwS.call {w : World} {base b : Nat} {l : List Z.En} {W W' : World} (h : AwS w base b l W) (k : Below W.heap.size W W') : AwS w base b l W' := by
  obtain ⟨sv, hm, hb, he⟩ := h
  exact ⟨sv, hm.step k, hb.trans (k.mono hb.size), he⟩
theorem aw_get (w : World) (base b : Nat) (l : List Z.En) (k : Int) (i : Nat) (W : World) (h : AwS w base b l W) (hl : l.length ≤ 2) (x : Z.En) (hp : Z.pos k l = some i) (hx : l[i]? = some x) :
    Calls Try.prog 18 #[.pointer (some ⟨b, 0, none⟩), .int .i64 k] W fun e w' => e = .returned (.tuple #[.agg (wordsL x).toArray, .bool true]) ∧ AwS w base b l w' := by
  have h0 := h
  obtain ⟨sv, hm, hb, he⟩ := h
  exact (get_yes (kd true) base b sv 2 l k i x W hm (by omega) hp hx).mono fun e w' ⟨h1, h2⟩ => ⟨h1, h0.call h2⟩
theorem aw_getno (w : World) (base b : Nat) (l : List Z.En) (k : Int) (W : World) (h : AwS w base b l W) (hl : l.length ≤ 2) (hp : Z.pos k l = none) :
    Calls Try.prog 18 #[.pointer (some ⟨b, 0, none⟩), .int .i64 k] W fun e w' => e = .returned (.tuple #[zeroW, .bool false]) ∧ AwS w base b l w' := by
  have h0 := h
  obtain ⟨sv, hm, hb, he⟩ := h
  exact (get_no (kd true) base b sv 2 l k W hm (by omega) hp).mono fun e w' ⟨h1, h2⟩ => ⟨h1, h0.call h2⟩
theorem aw_len (w : World) (base b : Nat) (l : List Z.En) (W : World) (h : AwS w base b l W) :
    Calls Try.prog 22 #[.pointer (some ⟨b, 0, none⟩)] W fun e w' => e = .returned (.int .i64 (l.length : Int)) ∧ AwS w base b l w' := by
  have h0 := h
  obtain ⟨sv, hm, hb, he⟩ := h
  exact (len_any (kd true) base b sv 2 l W hm).mono fun e w' ⟨h1, h2⟩ => ⟨h1, h0.call h2⟩
def z1 : Z.En := ⟨1, 0, 0, 0, 0⟩
def z2 : Z.En := ⟨2, 0, 0, 0, 0⟩
def z3 : Z.En := ⟨3, 0, 0, 0, 0⟩
set_option maxRecDepth 100000 in
set_option maxHeartbeats 4000000 in
theorem awake_any (w : World) : Calls Try.prog 6 #[] w fun e w' => e = .returned (.bool true) ∧ Below w.heap.size w w' := by
  have HN := Lib.hid (fun w => new_lru 2 w (by decide) (by decide))
  have HP1 := Lib.hid (fun W h => aw_put w w.heap.size w.heap.size [] [z1] 1 W h (by decide) (by decide) (by decide))
  have HP2 := Lib.hid (fun W h => aw_put w w.heap.size w.heap.size [z1] [z1, z2] 2 W h (by decide) (by decide) (by decide))
  have HU := Lib.hid (fun W h => aw_use w w.heap.size w.heap.size [z1, z2] [z2, z1] 1 0 W h (by decide) z1 (by decide) rfl (by decide))
  have HP3 := Lib.hid (fun W h => aw_put w w.heap.size w.heap.size [z2, z1] [z1, z3] 3 W h (by decide) (by decide) (by decide))
  have HG1 := Lib.hid (fun W h => aw_get w w.heap.size w.heap.size [z1, z3] 1 0 W h (by decide) z1 (by decide) rfl)
  have HG2 := Lib.hid (fun W h => aw_getno w w.heap.size w.heap.size [z1, z3] 2 W h (by decide) (by decide))
  have HL := Lib.hid (fun W h => aw_len w w.heap.size w.heap.size [z1, z3] W h)
  go_enter Try.func6, Try.ntmps6
  go_upto_region 5 with (first
    | (go_at_call 23; refine (HN.out _).mono ?_; rintro e w1 ⟨rfl, hm, hb⟩; have S0 : Hid (AwS w w.heap.size w.heap.size [] w1) := Lib.hid ⟨_, hm _ (Nat.le_refl _), hb, rfl⟩; clear hm hb)
    | (go_at_call 10; refine (HP1.out _ S0.out).mono ?_; rintro e w2 ⟨rfl, hs⟩; have S1 := Lib.hid hs; clear hs))
  go_upto_region 6 with (go_at_call 10; refine (HP2.out _ S1.out).mono ?_; rintro e w3 ⟨rfl, hs⟩; have S2 := Lib.hid hs; clear hs)
  go_upto_region 7 with (go_at_call 19; refine (HU.out _ S2.out).mono ?_; rintro e w4 ⟨rfl, hs⟩; have S3 := Lib.hid hs; clear hs)
  go_upto_region 8 with (go_at_call 10; refine (HP3.out _ S3.out).mono ?_; rintro e w5 ⟨rfl, hs⟩; have S4 := Lib.hid hs; clear hs)
  go_upto_region 9 with (first
    | (go_at_call 18; refine (HG1.out _ S4.out).mono ?_; rintro e w6 ⟨rfl, hs⟩; have S5 := Lib.hid hs; clear hs)
    | ((with_reducible refine wpList_store_newrow valT (vs := wordsL z1) (wordsL_length _) (wordsL_one _) rfl (.tmp 3) (.tmp 31) rfl rfl ?_ ?_ ?_); (exact rfl); (exact rfl); intro W7 hP hb hz; have S6 := Lib.hid (S5.out.call hb); clear hP hb hz))
  go_wp2_with (first
    | (go_at_call 18; refine (HG2.out _ S6.out).mono ?_; rintro e w8 ⟨rfl, hs⟩; have S7 := Lib.hid hs; clear hs)
    | ((with_reducible refine wpList_store_newrow valT (vs := [.int .i64 0, .int .i64 0, .int .i64 0, .int .i64 0]) rfl zero_one rfl (.tmp 5) (.tmp 36) rfl rfl ?_ ?_ ?_); (exact rfl); (exact rfl); intro W9 hP hb hz; have S8 := Lib.hid (S7.out.call hb); clear hP hb hz)
    | (go_at_call 22; refine (HL.out _ S8.out).mono ?_; rintro e w10 ⟨rfl, hs⟩; have S9 := Lib.hid hs; clear hs))
  go_ret
  obtain ⟨sv, _, hb, _⟩ := S9.out
  exact ⟨rfl, hb⟩
end Go.Proofs.Ytkomehplcacbcaa
