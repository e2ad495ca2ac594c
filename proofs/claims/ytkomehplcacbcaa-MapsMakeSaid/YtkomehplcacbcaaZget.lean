/-
  Get, Use, Len, Clear, All of a map that is there.
-/
import Derived.Test.YtkomehplcacbcaaZnew
namespace Go.Proofs.Ytkomehplcacbcaa
open Go.RowKit Go.Maps

theorem words_range {w : World} {g o : Nat} {x : Z.En} (h : w.rangeAt g o (enL x)) : w.rangeAt g (o + 1) (wordsL x) := fun j v hv => by
  have := h (j + 1) v hv
  rwa [show o + (j + 1) = o + 1 + j by omega] at this
theorem len_any (hd : Value) (base b : Nat) (sv : Value) (room : Nat) (l : List Z.En) (w : World) (h : MpAt 62 hd w base b sv room l) :
    Calls Try.prog 22 #[.pointer (some ⟨b, 0, none⟩)] w fun e w' => e = .returned (.int .i64 (l.length : Int)) ∧ Below w.heap.size w w' := by
  obtain ⟨A, c, rfl⟩ := owns_slice h.own
  have hc2 := h.row.cell 2 _ rfl
  clear h
  go_enter Try.func22, Try.ntmps22
  go_wp2
  go_ret
  exact ⟨rfl, Below.refl _ _⟩
theorem clear_any (hd : Value) (base b : Nat) (sv : Value) (room : Nat) (l : List Z.En) (w : World) (h : MpAt 62 hd w base b sv room l) :
    Calls Try.prog 17 #[.pointer (some ⟨b, 0, none⟩)] w fun e w' => e = .returned (.tuple #[]) ∧ ∃ sv', MpTo 62 hd w base b sv room [] w' sv' := by
  have hc2 := h.row.cell 2 _ rfl
  have hf2 := h.row.frozen 2 (show 2 < 3 by decide)
  have H := Lib.hid h
  clear h
  go_enter Try.func17, Try.ntmps17
  go_wp2
  go_end0
  exact ⟨rfl, .slice none 0 0, MpTo.stored H.out (But.refl _ _) ⟨rfl, Or.inl ⟨rfl, rfl⟩⟩ (fun k hk => by simp [Value.ownBlock] at hk)⟩
set_option maxRecDepth 100000 in
set_option maxHeartbeats 2000000 in
theorem get_no (hd : Value) (base b : Nat) (sv : Value) (room : Nat) (l : List Z.En) (key : Int) (w : World) (h : MpAt 62 hd w base b sv room l) (hn : l.length ≤ 1000) (hp : Z.pos key l = none) :
    Calls Try.prog 18 #[.pointer (some ⟨b, 0, none⟩), .int .i64 key] w fun e w' => e = .returned (.tuple #[zeroW, .bool false]) ∧ Below w.heap.size w w' := by
  have HF := Lib.hid (fun w => find_any hd base b sv room l key w)
  have HP : Hid (Z.posI key l = -1) := Lib.hid (by unfold Z.posI; rw [hp])
  have HL := Lib.hid hn
  have HB0 : Hid (Below w.heap.size w (w.alloc (.cells #[.int .i64 0, .int .i64 0, .int .i64 0, .int .i64 0] 39))) := Lib.hid ((Below.refl _ _).alloc (Nat.le_refl _) _)
  have HM := Lib.hid (h.step HB0.out)
  have R0 := Lib.hid (zero_row w 39)
  clear h hp hn
  go_enter Try.func18, Try.ntmps18
  go_upto_region 1 with fail
  generalize w.alloc (.cells #[.int .i64 0, .int .i64 0, .int .i64 0, .int .i64 0] 39) = W1 at HB0 R0 HM ⊢
  go_wp2_with (first
    | (go_at_call 24; refine (HF.out _ HM.out HL.out).mono ?_; rw [HP.out]; rintro e w2 ⟨rfl, hb⟩; have R := Lib.hid (R0.out.step hb); have HB := Lib.hid (HB0.out.trans (hb.mono HB0.out.size)); clear hb)
    | ((with_reducible refine wpList_store_row valT R.out rfl (vs := [.int .i64 0, .int .i64 0, .int .i64 0, .int .i64 0]) rfl zero_one rfl (.tmp 4) (.tmp 12) rfl ?_ ?_ ?_); (exact rfl); (exact rfl)))
  refine bodyPost_ret (results_row2 valT _ 4 5 rfl _ (R.out.put _ rfl) rfl rfl rfl) rfl ⟨rfl, below_setCells _ (Nat.le_refl _) _ _ _ HB.out⟩
set_option maxRecDepth 100000 in
set_option maxHeartbeats 2000000 in
theorem get_yes (hd : Value) (base b : Nat) (sv : Value) (room : Nat) (l : List Z.En) (key : Int) (i : Nat) (x : Z.En) (w : World) (h : MpAt 62 hd w base b sv room l) (hn : l.length ≤ 1000) (hp : Z.pos key l = some i) (hx : l[i]? = some x) :
    Calls Try.prog 18 #[.pointer (some ⟨b, 0, none⟩), .int .i64 key] w fun e w' => e = .returned (.tuple #[.agg (wordsL x).toArray, .bool true]) ∧ Below w.heap.size w w' := by
  have HF := Lib.hid (fun w => find_any hd base b sv room l key w)
  have HP : Hid (Z.posI key l = (i : Int)) := Lib.hid (by unfold Z.posI; rw [hp])
  have hi : i < l.length := (List.getElem?_eq_some_iff.1 hx).1
  have HX := Lib.hid hx
  have HL := Lib.hid hn
  have hi1 : (i : Int) < (l.length : Int) := by omega
  have hi0 : (0 : Int) ≤ (i : Int) := by omega
  have HB0 : Hid (Below w.heap.size w (w.alloc (.cells #[.int .i64 0, .int .i64 0, .int .i64 0, .int .i64 0] 39))) := Lib.hid ((Below.refl _ _).alloc (Nat.le_refl _) _)
  have HM := Lib.hid (h.step HB0.out)
  have R0 := Lib.hid (zero_row w 39)
  obtain ⟨g, cap, hsv, _, _, _, hgl, _⟩ := own_range h.own hx
  subst hsv
  clear h hp hn hx hi
  go_enter Try.func18, Try.ntmps18
  go_upto_region 1 with fail
  generalize w.alloc (.cells #[.int .i64 0, .int .i64 0, .int .i64 0, .int .i64 0] 39) = W1 at HB0 R0 HM ⊢
  go_wp2_with (first
    | (go_at_call 24; refine (HF.out _ HM.out HL.out).mono ?_; rw [HP.out]; rintro e w2 ⟨rfl, hb⟩; have R := Lib.hid (R0.out.step hb); have HB := Lib.hid (HB0.out.trans (hb.mono HB0.out.size)); have hm2 := HM.out.step hb; have hc2 := hm2.row.cell 2 _ rfl; obtain ⟨g', c', he, _, _, _, _, hrg⟩ := own_range hm2.own HX.out; injection he with he _ _; injection he with he; injection he with he; subst he; have HC := Lib.hid (words_range hrg); clear hb hm2 hrg)
    | ((with_reducible refine wpList_load_at valT HC.out (wordsL_length _) rfl (.tmp 19) rfl ?_ ?_); (exact rfl))
    | ((with_reducible refine wpList_store_row valT R.out rfl (vs := wordsL x) (wordsL_length _) (wordsL_one _) rfl (.tmp 4) (.tmp 20) rfl ?_ ?_ ?_); (exact rfl); (exact rfl)))
  refine bodyPost_ret (results_row2 valT _ 4 5 rfl _ (R.out.put _ rfl) rfl rfl rfl) rfl ⟨rfl, below_setCells _ (Nat.le_refl _) _ _ _ HB.out⟩
end Go.Proofs.Ytkomehplcacbcaa
