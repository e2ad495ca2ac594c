/-
  Put: a key's value is set.
-/
import Derived.Test.YtkomehplcacbcaaZset
import Derived.Test.YtkomehplcacbcaaZused
import Derived.BigQuiet
namespace Go.Proofs.Ytkomehplcacbcaa
open Go.RowKit Go.Maps

set_option maxRecDepth 100000 in
set_option maxHeartbeats 2000000 in
theorem put_there_hash (base b : Nat) (sv : Value) (room : Nat) (l : List Z.En) (x : Z.En) (i : Nat) (w : World) (h : MpAt 62 (kd false) w base b sv room l) (hp : Z.pos x.key l = some i) (hn : l.length ≤ 1000) (hbase : base ≤ w.heap.size) :
    Calls Try.prog 10 #[.pointer (some ⟨b, 0, none⟩), .int .i64 x.key, .agg #[.int .i64 x.a, .int .i64 x.b, .int .i64 x.c, .int .i64 x.d]] w fun e w' => e = .returned (.int .i64 0) ∧ ∃ sv', MpTo 62 (kd false) w base b sv room (l.set i x) w' sv' := by
  have S0 : Hid (InS 62 (kd false) w base b sv room l w.heap.size (wordsL x) (w.alloc (.cells #[.int .i64 x.a, .int .i64 x.b, .int .i64 x.c, .int .i64 x.d] 39)) sv) := Lib.hid ⟨MpTo.self h ((Below.refl _ _).alloc (Nat.le_refl _) _), rowAt_new w (wordsL x) _, by rw [wordsL_length]; omega, fun hf => by (have := (h.foot hf).2; omega), Nat.le_refl _⟩
  have HF := Lib.hid (fun w => find_any (kd false) base b sv room l x.key w)
  have HBS := Lib.hid hbase
  obtain ⟨y, hy, hky, _⟩ := Z.pos_some hp
  have hi : i < l.length := (List.getElem?_eq_some_iff.1 hy).1
  have HP : Hid (Z.posI x.key l = (i : Int)) := Lib.hid (by unfold Z.posI; rw [hp])
  have HY := Lib.hid hy
  have HK := Lib.hid hky
  have hi1 : (i : Int) < (l.length : Int) := by omega
  have hi0 : (0 : Int) ≤ (i : Int) := by omega
  have HI := Lib.hid hi
  have HL := Lib.hid hn
  have HX : Hid ((l.set i x)[i]? = some x) := Lib.hid (List.getElem?_set_self hi)
  obtain ⟨g, cap, hsv, _, _, _, _, _⟩ := own_range h.own hy
  subst hsv
  clear h hp hy hky hi hbase hn
  go_enter Try.func10, Try.ntmps10
  go_upto_region 1 with fail
  generalize w.alloc (.cells #[.int .i64 x.a, .int .i64 x.b, .int .i64 x.c, .int .i64 x.d] 39) = W1 at S0 ⊢
  go_upto_region 5 with (go_at_call 24; refine (HF.out _ S0.out.way.at_ HL.out).mono ?_; rw [HP.out]; rintro e w2 ⟨rfl, hb⟩; have S := Lib.hid (S0.out.call hb); clear hb S0)
  have hc2 := S.out.way.at_.row.cell 2 _ rfl
  have HR := Lib.hid S.out.row.range
  have S2 := Lib.hid (S.out.call (Below.refl _ _).drew)
  have HT := Lib.hid (own_thereE S2.out.way.at_.own HI.out)
  have S3 := Lib.hid (S2.out.turn (MpTo.wordset S2.out.way.at_ rfl HY.out HK.out))
  refine ws_region 8 (by kernel_rfl) ?_
  simp only [List.take_succ_cons, List.take_zero, List.drop_succ_cons, List.drop_zero]
  refine ws_take ((.pointer (some ⟨b, 0, none⟩))) (by kernel_rfl) ?_ ?_
  · (go_simp)
  (try simp only [Act.put, List.setIfInBounds_toArray, List.set_cons_zero, List.set_cons_succ])
  refine ws_take ((.pointer (some ⟨b, 0, none⟩))) (by kernel_rfl) ?_ ?_
  · (go_simp)
  (try simp only [Act.put, List.setIfInBounds_toArray, List.set_cons_zero, List.set_cons_succ])
  refine ws_take (.pointer (some ⟨b, 2, none⟩)) (by kernel_rfl) ?_ ?_
  · (go_simp)
  (try simp only [Act.put, List.setIfInBounds_toArray, List.set_cons_zero, List.set_cons_succ])
  refine ws_take (.slice (some ⟨g, 0, none⟩) l.length cap) (by kernel_rfl) ?_ ?_
  · (go_simp)
  (try simp only [Act.put, List.setIfInBounds_toArray, List.set_cons_zero, List.set_cons_succ])
  refine ws_take (.int .i64 (i : Int)) (by kernel_rfl) ?_ ?_
  · (go_simp)
  (try simp only [Act.put, List.setIfInBounds_toArray, List.set_cons_zero, List.set_cons_succ])
  refine ws_at valT (wordsL_length x) (.tmp 5) rfl rfl (by kernel_rfl) (HR.out) ?_
  (try simp only [Act.put, List.setIfInBounds_toArray, List.set_cons_zero, List.set_cons_succ])
  refine ws_take (.pointer (some ⟨g, i * 5, none⟩)) (by kernel_rfl) ?_ ?_
  · (go_simp)
  (try simp only [Act.put, List.setIfInBounds_toArray, List.set_cons_zero, List.set_cons_succ])
  refine ws_take (.pointer (some ⟨g, i * 5 + 1, none⟩)) (by kernel_rfl) ?_ ?_
  · (go_simp)
  (try simp only [Act.put, List.setIfInBounds_toArray, List.set_cons_zero, List.set_cons_succ])
  refine ws_nil ?_
  clear hc2 HR S S2
  refine wpList_store_words (g := g) (o := i * 5 + 1) (x := x) HT.out rfl (.tmp 22) (.tmp 20) rfl rfl rfl ?_
  generalize w2.drew.setCells g (i * 5 + 1) (wordsL x) = w3 at S3 ⊢
  go_wp2_with (go_at_call 25; refine (used_hash base b _ room (l.set i x) i w3 S3.out.way.at_).mono ?_; rintro e w4 ⟨rfl, hb⟩; have S4 := Lib.hid (S3.out.call hb); clear hb)
  refine bodyPost_ret (results_tmp rfl _ _ _) rfl ⟨rfl, _, S4.out.way⟩
set_option maxRecDepth 100000 in
set_option maxHeartbeats 2000000 in
theorem put_there_lru (base b : Nat) (sv : Value) (room : Nat) (l : List Z.En) (x : Z.En) (i : Nat) (w : World) (h : MpAt 62 (kd true) w base b sv room l) (hp : Z.pos x.key l = some i) (hn : l.length ≤ 1000) (hbase : base ≤ w.heap.size) :
    Calls Try.prog 10 #[.pointer (some ⟨b, 0, none⟩), .int .i64 x.key, .agg #[.int .i64 x.a, .int .i64 x.b, .int .i64 x.c, .int .i64 x.d]] w fun e w' => e = .returned (.int .i64 0) ∧ ∃ sv', MpTo 62 (kd true) w base b sv room (l.eraseIdx i ++ [x]) w' sv' := by
  have S0 : Hid (InS 62 (kd true) w base b sv room l w.heap.size (wordsL x) (w.alloc (.cells #[.int .i64 x.a, .int .i64 x.b, .int .i64 x.c, .int .i64 x.d] 39)) sv) := Lib.hid ⟨MpTo.self h ((Below.refl _ _).alloc (Nat.le_refl _) _), rowAt_new w (wordsL x) _, by rw [wordsL_length]; omega, fun hf => by (have := (h.foot hf).2; omega), Nat.le_refl _⟩
  have HF := Lib.hid (fun w => find_any (kd true) base b sv room l x.key w)
  have HBS := Lib.hid hbase
  obtain ⟨y, hy, hky, _⟩ := Z.pos_some hp
  have hi : i < l.length := (List.getElem?_eq_some_iff.1 hy).1
  have HP : Hid (Z.posI x.key l = (i : Int)) := Lib.hid (by unfold Z.posI; rw [hp])
  have HY := Lib.hid hy
  have HK := Lib.hid hky
  have hi1 : (i : Int) < (l.length : Int) := by omega
  have hi0 : (0 : Int) ≤ (i : Int) := by omega
  have HI := Lib.hid hi
  have HL := Lib.hid hn
  have HX : Hid ((l.set i x)[i]? = some x) := Lib.hid (List.getElem?_set_self hi)
  obtain ⟨g, cap, hsv, _, _, _, _, _⟩ := own_range h.own hy
  subst hsv
  clear h hp hy hky hi hbase hn
  go_enter Try.func10, Try.ntmps10
  go_upto_region 1 with fail
  generalize w.alloc (.cells #[.int .i64 x.a, .int .i64 x.b, .int .i64 x.c, .int .i64 x.d] 39) = W1 at S0 ⊢
  go_upto_region 5 with (go_at_call 24; refine (HF.out _ S0.out.way.at_ HL.out).mono ?_; rw [HP.out]; rintro e w2 ⟨rfl, hb⟩; have S := Lib.hid (S0.out.call hb); clear hb S0)
  have hc2 := S.out.way.at_.row.cell 2 _ rfl
  have HR := Lib.hid S.out.row.range
  have S2 := Lib.hid (S.out.call (Below.refl _ _).drew)
  have HT := Lib.hid (own_thereE S2.out.way.at_.own HI.out)
  have S3 := Lib.hid (S2.out.turn (MpTo.wordset S2.out.way.at_ rfl HY.out HK.out))
  refine ws_region 8 (by kernel_rfl) ?_
  simp only [List.take_succ_cons, List.take_zero, List.drop_succ_cons, List.drop_zero]
  refine ws_take ((.pointer (some ⟨b, 0, none⟩))) (by kernel_rfl) ?_ ?_
  · (go_simp)
  (try simp only [Act.put, List.setIfInBounds_toArray, List.set_cons_zero, List.set_cons_succ])
  refine ws_take ((.pointer (some ⟨b, 0, none⟩))) (by kernel_rfl) ?_ ?_
  · (go_simp)
  (try simp only [Act.put, List.setIfInBounds_toArray, List.set_cons_zero, List.set_cons_succ])
  refine ws_take (.pointer (some ⟨b, 2, none⟩)) (by kernel_rfl) ?_ ?_
  · (go_simp)
  (try simp only [Act.put, List.setIfInBounds_toArray, List.set_cons_zero, List.set_cons_succ])
  refine ws_take (.slice (some ⟨g, 0, none⟩) l.length cap) (by kernel_rfl) ?_ ?_
  · (go_simp)
  (try simp only [Act.put, List.setIfInBounds_toArray, List.set_cons_zero, List.set_cons_succ])
  refine ws_take (.int .i64 (i : Int)) (by kernel_rfl) ?_ ?_
  · (go_simp)
  (try simp only [Act.put, List.setIfInBounds_toArray, List.set_cons_zero, List.set_cons_succ])
  refine ws_at valT (wordsL_length x) (.tmp 5) rfl rfl (by kernel_rfl) (HR.out) ?_
  (try simp only [Act.put, List.setIfInBounds_toArray, List.set_cons_zero, List.set_cons_succ])
  refine ws_take (.pointer (some ⟨g, i * 5, none⟩)) (by kernel_rfl) ?_ ?_
  · (go_simp)
  (try simp only [Act.put, List.setIfInBounds_toArray, List.set_cons_zero, List.set_cons_succ])
  refine ws_take (.pointer (some ⟨g, i * 5 + 1, none⟩)) (by kernel_rfl) ?_ ?_
  · (go_simp)
  (try simp only [Act.put, List.setIfInBounds_toArray, List.set_cons_zero, List.set_cons_succ])
  refine ws_nil ?_
  clear hc2 HR S S2
  refine wpList_store_words (g := g) (o := i * 5 + 1) (x := x) HT.out rfl (.tmp 22) (.tmp 20) rfl rfl rfl ?_
  generalize w2.drew.setCells g (i * 5 + 1) (wordsL x) = w3 at S3 ⊢
  go_wp2_with (go_at_call 25; refine (used_lru base b _ room (l.set i x) i x w3 S3.out.way.at_ HX.out (by rw [List.length_set]; exact HL.out) (Nat.le_trans HBS.out S3.out.way.but.size)).mono ?_; rintro e w4 ⟨rfl, sv4, hto⟩; have S4 := Lib.hid (S3.out.turn hto); clear hto)
  refine bodyPost_ret (results_tmp rfl _ _ _) rfl ⟨rfl, sv4, ?_⟩
  have := S4.out.way
  rwa [Z.set_erase] at this
end Go.Proofs.Ytkomehplcacbcaa
