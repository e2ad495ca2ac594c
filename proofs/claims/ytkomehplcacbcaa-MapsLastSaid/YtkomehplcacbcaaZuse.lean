/-
  Use of an Lru's entry; All.
-/
import Derived.Test.YtkomehplcacbcaaZget
namespace Go.Proofs.Ytkomehplcacbcaa
open Go.RowKit Go.Maps

theorem InS.res {et : TypeId} {hd : Value} {w0 : World} {base b : Nat} {sv0 : Value} {room : Nat} {l : List Z.En} {B : Nat} {vs us : List Value} {W : World} {sv : Value} (k : InS et hd w0 base b sv0 room l B vs W sv) : MpTo et hd w0 base b sv0 room l (W.setCells B 0 us) sv := by
  have hb := But.setCells B us 0 W
  refine ⟨k.way.at_.keep hb (fun x hx hf => k.far (by rw [← hx]; exact hf)), k.way.but.trans hb (fun x hx => Or.inr (by rw [hx]; exact k.old)), k.way.new⟩
set_option maxRecDepth 100000 in
set_option maxHeartbeats 2000000 in
theorem use_lru (base b : Nat) (sv : Value) (room : Nat) (l : List Z.En) (key : Int) (i : Nat) (x : Z.En) (w : World) (h : MpAt 62 (kd true) w base b sv room l) (hn : l.length ≤ 1000) (hp : Z.pos key l = some i) (hx : l[i]? = some x) (hbase : base ≤ w.heap.size) :
    Calls Try.prog 19 #[.pointer (some ⟨b, 0, none⟩), .int .i64 key] w fun e w' => e = .returned (.tuple #[.agg (wordsL x).toArray, .bool true]) ∧ ∃ sv', MpTo 62 (kd true) w base b sv room (l.eraseIdx i ++ [x]) w' sv' := by
  have HF := Lib.hid (fun w => find_any (kd true) base b sv room l key w)
  have HP : Hid (Z.posI key l = (i : Int)) := Lib.hid (by unfold Z.posI; rw [hp])
  have hi : i < l.length := (List.getElem?_eq_some_iff.1 hx).1
  have HX := Lib.hid hx
  have HL := Lib.hid hn
  have HBS := Lib.hid hbase
  have hi1 : (i : Int) < (l.length : Int) := by omega
  have hi0 : (0 : Int) ≤ (i : Int) := by omega
  have S0 : Hid (InS 62 (kd true) w base b sv room l w.heap.size [.int .i64 0, .int .i64 0, .int .i64 0, .int .i64 0] (w.alloc (.cells #[.int .i64 0, .int .i64 0, .int .i64 0, .int .i64 0] 39)) sv) := Lib.hid ⟨MpTo.self h ((Below.refl _ _).alloc (Nat.le_refl _) _), zero_row w _, by decide, fun hf => by (have := (h.foot hf).2; omega), Nat.le_refl _⟩
  obtain ⟨g, cap, hsv, _, _, _, hgl, _⟩ := own_range h.own hx
  subst hsv
  clear h hp hn hx hi hbase
  go_enter Try.func19, Try.ntmps19
  go_upto_region 1 with fail
  generalize w.alloc (.cells #[.int .i64 0, .int .i64 0, .int .i64 0, .int .i64 0] 39) = W1 at S0 ⊢
  go_upto_region 4 with (go_at_call 24; refine (HF.out _ S0.out.way.at_ HL.out).mono ?_; rw [HP.out]; rintro e w2 ⟨rfl, hb⟩; have S := Lib.hid (S0.out.call hb); clear hb S0)
  have hc2 := S.out.way.at_.row.cell 2 _ rfl
  obtain ⟨g', c', he, _, _, _, _, hrg⟩ := own_range S.out.way.at_.own HX.out
  injection he with he _ _
  injection he with he
  injection he with he
  subst he
  have HC := Lib.hid (words_range hrg)
  clear hrg
  go_wp2_with (first
    | ((with_reducible refine wpList_load_at valT HC.out (wordsL_length _) rfl (.tmp 20) rfl ?_ ?_); (exact rfl))
    | ((with_reducible refine wpList_store_newrow valT (vs := wordsL x) (wordsL_length _) (wordsL_one _) rfl (.tmp 7) (.tmp 21) rfl rfl ?_ ?_ ?_); (exact rfl); (exact rfl); intro W4 hP hb hz; have S4 := Lib.hid (S.out.call hb); have HV := Lib.hid hP; have HVF : Hid (¬ Foot b (.slice (some ⟨g, 0, none⟩) l.length cap) w2.heap.size) := Lib.hid (fun hf => by (have := (S.out.way.at_.foot hf).2; omega)); clear hP hb hz S; generalize w2.heap.size = V at HV HVF ⊢)
    | (go_at_call 25; refine (used_lru base b _ room l i x W4 S4.out.way.at_ HX.out HL.out (Nat.le_trans HBS.out S4.out.way.but.size)).mono ?_; rintro e w5 ⟨rfl, sv5, hto⟩; have S5 := Lib.hid (S4.out.turn hto); have HV5 := Lib.hid (RowAt.but (v := .int .i64 x.a) (vs := [.int .i64 x.b, .int .i64 x.c, .int .i64 x.d]) HV.out hto.but HVF.out); have HR5 := Lib.hid S5.out.row; clear hto)
    | (with_reducible refine wpList_load_row valT (vs := wordsL x) HV5.out (wordsL_length _) rfl (.tmp 7) rfl rfl ?_)
    | ((with_reducible refine wpList_store_row valT HR5.out rfl (vs := wordsL x) (wordsL_length _) (wordsL_one _) rfl (.tmp 4) (.tmp 25) rfl ?_ ?_ ?_); (exact rfl); (exact rfl)))
  refine bodyPost_ret (results_row2 valT _ 4 5 rfl _ (HR5.out.put _ rfl) rfl rfl rfl) rfl ⟨rfl, sv5, S5.out.res⟩
theorem empty_own (w : World) (base : Nat) (t : TypeId) (hb : base ≤ w.heap.size) : (w.alloc (.cells #[] t)).ownsRow base t 5 (.slice (some ⟨w.heap.size, 0, none⟩) 0 0) 0 (cellsE []) := ⟨rfl, Or.inr ⟨w.heap.size, 0, #[], rfl, hb, heap_alloc_new w _, Nat.le_refl _, by unfold maxLen; omega, rfl, rfl⟩⟩
theorem ens_nil (w : World) : EnsAt w none 0 [] := ⟨rfl, ⟨fun h => by simp at h⟩⟩
set_option maxRecDepth 100000 in
set_option maxHeartbeats 2000000 in
theorem clone_any (g n c base : Nat) (l : List Z.En) (w : World) (h : w.ownsRow base 62 5 (.slice (some ⟨g, 0, none⟩) n c) n (cellsE l)) (hn : n ≤ 1000) :
    Calls Try.prog 29 #[.slice (some ⟨g, 0, none⟩) n c] w fun e w' => ∃ A d, e = .returned (.slice A n d) ∧ EnsAt w' A n l ∧ Below w.heap.size w w' := by
  have hln : l.length = n := by have := h.1; rw [cellsE_length] at this; omega
  obtain ⟨_, _, hgl, _⟩ := own_cap h
  have HL := Lib.hid hln
  have HW : Hid (Below w.heap.size w (w.alloc (.cells #[] 62))) := Lib.hid ((Below.refl _ _).alloc (Nat.le_refl _) _)
  have HE := Lib.hid (empty_own w w.heap.size 62 (Nat.le_refl _))
  have HS : Hid (∀ j u, (cellsE l)[j]? = some u → (w.alloc (.cells #[] 62)).cell? ((⟨g, 0, none⟩ : Addr).add j) = some u) := Lib.hid (fun j u hu => (owns_below h HW.out).cells rfl j u hu)
  have HC : Hid ((cellsE l).length = n * 5) := Lib.hid (by rw [cellsE_length, hln])
  have HZ : Hid (w.heap.size ≤ (w.alloc (.cells #[] 62)).heap.size) := Lib.hid (by simp)
  obtain ⟨i0, hi0, hz0, hs0, hb0⟩ := info_parts info_en
  have HI0 := Lib.hid hi0
  have HZ0 := Lib.hid hz0
  have HS0 := Lib.hid hs0
  have HB0 := Lib.hid hb0
  clear h hln hi0 hz0 hs0 hb0
  have hcmp : ∀ w, (binOp BinOp.eql 46 (.slice (some ⟨g, 0, none⟩) n c) (.slice none 0 0)).run Try.prog w = .ok (.bool false) w := fun w => by kernel_rfl
  go_enter Try.func29, Try.ntmps29
  go_wp2_with (at_builtin; go_must (refine wpList_append_own_at _ rfl (.tmp 5) (.tmp 6) 46 rfl w.heap.size 62 i0 _ 5 40 Try.underlying46 HI0.out HZ0.out HS0.out HB0.out rfl (by omega) _ 0 _ rfl HE.out ⟨g, 0, none⟩ n c (cellsE l) rfl HC.out HS.out (cellsE_one _) (by unfold maxLen; omega) (by omega) HZ.out ?_); intro v' w5 hown' hgrow hnil hloc; rw [Nat.zero_add] at hown'; obtain ⟨A, d, rfl⟩ := owns_slice hown'; have HF : Hid (EnsAt w5 A n l ∧ Below w.heap.size w w5) := Lib.hid ⟨own_ens hown' HL.out.symm, HW.out.grown hgrow HZ.out (fun k hk => by injection hk with hk; rw [← hk]; exact Nat.le_refl _)⟩; clear hown' hgrow hnil hloc)
  go_ret
  exact ⟨A, d, rfl, HF.out.1, HF.out.2⟩
theorem clone_nil (w : World) : Calls Try.prog 29 #[.slice none 0 0] w fun e w' => e = .returned (.slice none 0 0) ∧ Below w.heap.size w w' := by
  have hcmp : ∀ w, (binOp BinOp.eql 46 (.slice none 0 0) (.slice none 0 0)).run Try.prog w = .ok (.bool true) w := fun w => by kernel_rfl
  go_enter Try.func29, Try.ntmps29
  go_wp2
  refine bodyPost_ret (results_tmp rfl _ _ _) rfl ⟨rfl, Below.refl _ _⟩
theorem all_any (hd : Value) (base b : Nat) (sv : Value) (room : Nat) (l : List Z.En) (w : World) (h : MpAt 62 hd w base b sv room l) (hn : l.length ≤ 1000) :
    Calls Try.prog 14 #[.pointer (some ⟨b, 0, none⟩)] w fun e w' => ∃ A d, e = .returned (.slice A l.length d) ∧ EnsAt w' A l.length l ∧ Below w.heap.size w w' := by
  have hc2 := h.row.cell 2 _ rfl
  rcases h.own.2 with ⟨e1, e2⟩ | ⟨g, cap, cur, e1, _⟩
  · subst e1
    have hl : l = [] := List.eq_nil_of_length_eq_zero e2
    subst hl
    clear h
    have HC := Lib.hid (fun w => clone_nil w)
    go_enter Try.func14, Try.ntmps14
    go_wp2_with (go_at_call 29; refine (HC.out _).mono ?_; rintro e w5 ⟨rfl, hb⟩; have HB := Lib.hid hb; clear hb)
    go_ret
    exact ⟨none, 0, rfl, ens_nil _, HB.out⟩
  · subst e1
    have HC := Lib.hid (clone_any g l.length cap base l w h.own hn)
    clear h
    go_enter Try.func14, Try.ntmps14
    go_wp2_with (go_at_call 29; refine (HC.out).mono ?_; rintro e w5 ⟨A, d, rfl, he, hb⟩; have HB := Lib.hid hb; have HE := Lib.hid he; clear hb he)
    go_ret
    exact ⟨A, d, rfl, HE.out, HB.out⟩
end Go.Proofs.Ytkomehplcacbcaa
