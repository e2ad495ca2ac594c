/- Texts of the proof. -/
import Derived.Test.YtmpfcgjjejlhdaaGreatBai
import Derived.Test.YtmpfcgjjejlhdaaGreatBaf
import Derived.RegionTactic
import Derived.IntWalk
import Derived.Test.YtmpfcgjjejlhdaaGreatBag
import Derived.Maps.AppendAt
import Derived.Test.YtmpfcgjjejlhdaaGreatBah
import Derived.Lib.Builder
import Derived.Lib.UnsafeStr
import Derived.Lib.MakeNoZero
import Derived.Lib.Walk
import Derived.Laws.Externs
import Derived.Laws.AppendOwn
import Derived.Lib.AppendStr
set_option maxRecDepth 100000
set_option maxHeartbeats 16000000
namespace Go.Proofs.YtmpfcgjjejlhdaaGreat
section
open Go.RowKit Go.Maps
open Dk (zeros zeros_length)
open Ii (Ino)
theorem base_box (w : World) (st : Nat) (n I : Int) : Lo [] w [(w.heap.size, baseL st n I)] (w.alloc (.cells #[.pointer (some ⟨st, 0, none⟩), .int .i64 n, .int .i64 I] 70)) :=
  (Lo.start w (by simp)).alloc _ rfl (baseL st n I) _
theorem tbl_ok {s : Sto} {n I i : Int} (h : Vs s n I) (h1 : 1 ≤ i) (h2 : i ≤ I) : okP n (43 + (i - 1) / 2) ∧ (43 + (i - 1) / 2).toNat = Fs.tbl i := by
  obtain ⟨b1, b2, b3, b4, b5, b6⟩ := h.bd
  unfold Pl.dataN at b4
  exact ⟨⟨by omega, by omega, by omega⟩, rfl⟩
theorem binode_no {w : World} {b : Blk} {s : Sto} {n I : Int} (v : Vs s n I) (i : Int) (h0 : i < 1 ∨ I < i) : Calls Tryz.prog 80 #[baseV b.s n I, .int .i64 i] w fun e w' => e = .returned (.tuple #[inoV Ii.zero, .int .i64 22]) ∧ Below w.heap.size w w' := by
  have S := Lib.hid ((base_box w b.s n I).alloc (w.heap.size + 1) (by simp) (inoL Ii.zero) 47)
  have HP : Hid (∀ w, Calls Tryz.prog 82 #[.agg #[.int .i64 n, .int .i64 I], .int .i64 i] w fun e w' => e = .returned (.tuple #[.int .i64 0, .int .i64 0]) ∧ Below w.heap.size w w') := Lib.hid (fun w => place_no n I i w v.pl h0)
  clear v h0
  unfold baseV
  go_enter Tryz.func80, Tryz.ntmps80
  go_wp2_with (first
    | (go_at_call 82; (with_reducible refine (HP.out _).mono ?_); rintro e w1 ⟨rfl, hb⟩; replace S := Lib.hid (S.out.below hb); clear hb)
    | ((with_reducible refine wpList_store_rw (vs := inoL Ii.zero) inoT (S.out.get 1 _ rfl) ?_ ?_ (inoL_one _) rfl (.tmp 4) (.tmp 20) rfl ?_ ?_ ?_); (exact rfl); (exact rfl); (exact rfl); (exact rfl)))
  have S2 := Lib.hid (S.out.put 1 _ rfl (inoL Ii.zero) rfl)
  exact bodyPost_ret (results_row2 inoT _ 4 5 rfl _ (S2.out.get 1 _ rfl) rfl rfl rfl) rfl ⟨rfl, S2.out.bel⟩
theorem binode_yes {w : World} {b : Blk} {s : Sto} {n I : Int} (hst : StoreAt w b s) (v : Vs s n I) (i : Int) (h1 : 1 ≤ i) (h2 : i ≤ I) : Calls Tryz.prog 80 #[baseV b.s n I, .int .i64 i] w fun e w' => e = .returned (.tuple #[inoV (Fs.inoAt (nv s) i), .int .i64 0]) ∧ Below w.heap.size w w' := by
  have S := Lib.hid ((base_box w b.s n I).alloc (w.heap.size + 1) (by simp) (inoL Ii.zero) 47)
  have HP : Hid (∀ w, Calls Tryz.prog 82 #[.agg #[.int .i64 n, .int .i64 I], .int .i64 i] w fun e w' => e = .returned (.tuple #[.int .i64 (43 + (i - 1) / 2), .int .i64 ((i - 1) % 2)]) ∧ Below w.heap.size w w') := Lib.hid (fun w => place_yes n I i w v.pl h1 h2)
  obtain ⟨k1, k2⟩ := tbl_ok v h1 h2
  obtain ⟨r1, r2, r3⟩ := v.read k1
  rw [k2] at r1 r3
  have HR : Hid (∀ W l, Lo [] w l W → Calls Tryz.prog 75 #[.pointer (some ⟨b.s, 0, none⟩), .int .i64 (43 + (i - 1) / 2)] W fun e w' => e = .returned (.tuple #[pageV (nv s (Fs.tbl i)), .int .i64 0]) ∧ Below W.heap.size W w') := Lib.hid (fun W l hl => by
    have := sread_any (hl.store hst) (43 + (i - 1) / 2)
    rw [r1, r2] at this
    exact this)
  have HL := Lib.hid r3
  have HG : Hid (∀ w, Calls Tryz.prog 126 #[pageV (nv s (Fs.tbl i)), .int .i64 ((i - 1) % 2)] w fun e w' => e = .returned (inoV (Ii.getI (nv s (Fs.tbl i)) (Fs.halfAt i))) ∧ Below w.heap.size w w') := Lib.hid (fun w => iget_any _ i w r3)
  unfold Fs.inoAt
  have hat : ((43 + (i - 1) / 2 : Int) == 0) = false := by rw [beq_eq_false_iff_ne]; omega
  clear v hst h1 h2 k1 k2 r1 r2 r3
  generalize (43 + (i - 1) / 2 : Int) = at1 at HP HR hat
  generalize (i - 1) % 2 = hf at HP HG
  generalize nv s (Fs.tbl i) = p at HR HL HG ⊢
  generalize Ii.getI p (Fs.halfAt i) = x at HG ⊢
  unfold baseV
  by_cases hk : x.k = 0
  · rw [if_pos hk]
    have gk : (x.k == 0) = true := by rw [hk]; rfl
    clear hk
    go_enter Tryz.func80, Tryz.ntmps80
    go_wp2_with (first
      | (go_at_call 82; (with_reducible refine (HP.out _).mono ?_); rintro e w1 ⟨rfl, hb⟩; replace S := Lib.hid (S.out.below hb); have c0 := (S.out.get 0 _ rfl).cell 0 _ rfl; clear hb)
      | (go_at_call 75; (with_reducible refine (HR.out _ _ S.out).mono ?_); rintro e w2 ⟨rfl, hb⟩; clear c0; replace S := Lib.hid (S.out.below hb); clear hb)
      | ((with_reducible refine wpList_store_new rfl (.tmp 8) (.tmp 26) rfl rfl ?_ ?_ HL.out ?_); (exact rfl); (exact rfl); intro W2 hP hB2 hz2; replace S := Lib.hid (S.out.made hP.rowAt hB2 hz2); clear hP hB2 hz2)
      | (with_reducible refine wpList_load_page ((S.out.get 2 _ rfl).page HL.out) rfl (.tmp 8) rfl rfl ?_)
      | (go_at_call 126; (with_reducible refine (HG.out _).mono ?_); rintro e w3 ⟨rfl, hb⟩; replace S := Lib.hid (S.out.below hb); clear hb)
      | ((with_reducible refine wpList_store_newrow (vs := inoL x) inoT ?_ (inoL_one _) rfl (.tmp 10) (.tmp 34) rfl rfl ?_ ?_ ?_); (exact rfl); (exact rfl); (exact rfl); intro W4 hP hB2 hz2; replace S := Lib.hid (S.out.made hP hB2 hz2); clear hP hB2 hz2; have i0 := (S.out.get 3 _ rfl).cell 0 _ rfl)
      | ((with_reducible refine wpList_store_rw (vs := inoL Ii.zero) inoT (S.out.get 1 _ rfl) ?_ ?_ (inoL_one _) rfl (.tmp 4) (.tmp 38) rfl ?_ ?_ ?_); (exact rfl); (exact rfl); (exact rfl); (exact rfl)))
    have S2 := Lib.hid (S.out.put 1 _ rfl (inoL Ii.zero) rfl)
    exact bodyPost_ret (results_row2 inoT _ 4 5 rfl _ (S2.out.get 1 _ rfl) rfl rfl rfl) rfl ⟨rfl, S2.out.bel⟩
  · rw [if_neg hk]
    have gk : (x.k == 0) = false := by rw [beq_eq_false_iff_ne]; exact hk
    clear hk
    go_enter Tryz.func80, Tryz.ntmps80
    go_wp2_with (first
      | (go_at_call 82; (with_reducible refine (HP.out _).mono ?_); rintro e w1 ⟨rfl, hb⟩; replace S := Lib.hid (S.out.below hb); have c0 := (S.out.get 0 _ rfl).cell 0 _ rfl; clear hb)
      | (go_at_call 75; (with_reducible refine (HR.out _ _ S.out).mono ?_); rintro e w2 ⟨rfl, hb⟩; clear c0; replace S := Lib.hid (S.out.below hb); clear hb)
      | ((with_reducible refine wpList_store_new rfl (.tmp 8) (.tmp 26) rfl rfl ?_ ?_ HL.out ?_); (exact rfl); (exact rfl); intro W2 hP hB2 hz2; replace S := Lib.hid (S.out.made hP.rowAt hB2 hz2); clear hP hB2 hz2)
      | (with_reducible refine wpList_load_page ((S.out.get 2 _ rfl).page HL.out) rfl (.tmp 8) rfl rfl ?_)
      | (go_at_call 126; (with_reducible refine (HG.out _).mono ?_); rintro e w3 ⟨rfl, hb⟩; replace S := Lib.hid (S.out.below hb); clear hb)
      | ((with_reducible refine wpList_store_newrow (vs := inoL x) inoT ?_ (inoL_one _) rfl (.tmp 10) (.tmp 34) rfl rfl ?_ ?_ ?_); (exact rfl); (exact rfl); (exact rfl); intro W4 hP hB2 hz2; replace S := Lib.hid (S.out.made hP hB2 hz2); clear hP hB2 hz2; have i0 := (S.out.get 3 _ rfl).cell 0 _ rfl)
      | (with_reducible refine wpList_load_rw inoT (S.out.get 3 _ rfl) rfl rfl (.tmp 10) rfl rfl ?_)
      | ((with_reducible refine wpList_store_rw (vs := inoL x) inoT (S.out.get 1 _ rfl) ?_ ?_ (inoL_one _) rfl (.tmp 4) (.tmp 39) rfl ?_ ?_ ?_); (exact rfl); (exact rfl); (exact rfl); (exact rfl)))
    have S2 := Lib.hid (S.out.put 1 _ rfl (inoL x) rfl)
    exact bodyPost_ret (results_row2 inoT _ 4 5 rfl _ (S2.out.get 1 _ rfl) rfl rfl rfl) rfl ⟨rfl, S2.out.bel⟩
theorem taken_no {I i : Int} {V : Fs.View} (h : Fs.takenF I i V = .error 22) : (i < 1 ∨ I < i) ∨ (1 ≤ i ∧ i ≤ I ∧ (Fs.inoAt V i).k = 0) := by
  unfold Fs.takenF at h
  by_cases c : 1 ≤ i ∧ i ≤ I
  · rw [if_pos c] at h
    right
    refine ⟨c.1, c.2, ?_⟩
    by_cases d : (Fs.inoAt V i).k = 0
    · exact d
    · rw [if_neg d] at h; cases h
  · left; omega
theorem taken_yes {I i : Int} {V : Fs.View} {x : Ino} (h : Fs.takenF I i V = .ok x) : 1 ≤ i ∧ i ≤ I ∧ x = Fs.inoAt V i ∧ x.k ≠ 0 := by
  unfold Fs.takenF at h
  by_cases c : 1 ≤ i ∧ i ≤ I
  · rw [if_pos c] at h
    by_cases d : (Fs.inoAt V i).k = 0
    · rw [if_pos d] at h; cases h
    · rw [if_neg d] at h
      injection h with h
      subst h
      exact ⟨c.1, c.2, rfl, d⟩
  · rw [if_neg c] at h; cases h
theorem taken_or (I i : Int) (V : Fs.View) : Fs.takenF I i V = .error 22 ∨ ∃ x, Fs.takenF I i V = .ok x := by
  unfold Fs.takenF
  split
  · split
    · exact Or.inl rfl
    · exact Or.inr ⟨_, rfl⟩
  · exact Or.inl rfl
theorem base_boxV (w : World) (st : Nat) (n I : Int) : Lo [] w [(w.heap.size, baseL st n I), (w.heap.size + 1, inoL Ii.zero)] ((w.alloc (.cells #[.pointer (some ⟨st, 0, none⟩), .int .i64 n, .int .i64 I] 70)).alloc (.cells (inoL Ii.zero).toArray 47)) :=
  (base_box w st n I).alloc (w.heap.size + 1) (by simp) (inoL Ii.zero) 47
theorem btaken_no {w : World} {b : Blk} {s : Sto} {n I : Int} (hst : StoreAt w b s) (v : Vs s n I) (i : Int) (h : Fs.takenF I i (nv s) = .error 22) : Calls Tryz.prog 110 #[baseV b.s n I, .int .i64 i] w fun e w' => e = .returned (.tuple #[inoV Ii.zero, .int .i64 22]) ∧ Below w.heap.size w w' := by
  have S := Lib.hid (base_boxV w b.s n I)
  have HI : ∃ E : Int, Hid (∀ W l, Lo [] w l W → Calls Tryz.prog 80 #[baseV b.s n I, .int .i64 i] W fun e w' => e = .returned (.tuple #[inoV Ii.zero, .int .i64 E]) ∧ Below W.heap.size W w') ∧ (E = 0 ∨ E = 22) := by
    rcases taken_no h with c | ⟨c1, c2, c3⟩
    · exact ⟨22, Lib.hid (fun W l _ => binode_no v i c), Or.inr rfl⟩
    · refine ⟨0, Lib.hid (fun W l hl => ?_), Or.inl rfl⟩
      have := binode_yes (hl.store hst) v i c1 c2
      have e : Fs.inoAt (nv s) i = Ii.zero := by
        unfold Fs.inoAt at c3 ⊢
        split
        · rfl
        · rename_i q; rw [if_neg q] at c3; exact absurd c3 q
      rw [e] at this
      exact this
  obtain ⟨E, HI, hE⟩ := HI
  clear v hst h
  rcases hE with rfl | rfl
  all_goals
    unfold baseV at HI ⊢
    go_enter Tryz.func110, Tryz.ntmps110
    go_wp2_with (first
      | (with_reducible refine wpList_load_base (S.out.get 0 _ rfl).base rfl (.tmp 2) rfl rfl ?_)
      | (go_at_call 80; refine (HI.out _ _ S.out).mono ?_; rintro e w1 ⟨rfl, hb⟩; replace S := Lib.hid (S.out.below hb); clear hb)
      | ((with_reducible refine wpList_store_newrow (vs := inoL Ii.zero) inoT ?_ (inoL_one _) rfl (.tmp 6) (.tmp 12) rfl rfl ?_ ?_ ?_); (exact rfl); (exact rfl); (exact rfl); intro W4 hP hB2 hz2; replace S := Lib.hid (S.out.made hP hB2 hz2); clear hP hB2 hz2; have i0 := (S.out.get 2 _ rfl).cell 0 _ rfl)
      | (with_reducible refine wpList_load_rw inoT (S.out.get 2 _ rfl) rfl rfl (.tmp 6) rfl rfl ?_)
      | ((with_reducible refine wpList_store_rw (vs := inoL Ii.zero) inoT (S.out.get 1 _ rfl) ?_ ?_ (inoL_one _) rfl (.tmp 4) (.tmp 21) rfl ?_ ?_ ?_); (exact rfl); (exact rfl); (exact rfl); (exact rfl))
      | ((with_reducible refine wpList_store_rw (vs := inoL Ii.zero) inoT (S.out.get 1 _ rfl) ?_ ?_ (inoL_one _) rfl (.tmp 4) (.tmp 22) rfl ?_ ?_ ?_); (exact rfl); (exact rfl); (exact rfl); (exact rfl)))
    have S2 := Lib.hid (S.out.put 1 _ rfl (inoL Ii.zero) rfl)
    exact bodyPost_ret (results_row2 inoT _ 4 5 rfl _ (S2.out.get 1 _ rfl) rfl rfl rfl) rfl ⟨rfl, S2.out.bel⟩
theorem btaken_yes {w : World} {b : Blk} {s : Sto} {n I : Int} (hst : StoreAt w b s) (v : Vs s n I) (i : Int) {x : Ino} (h : Fs.takenF I i (nv s) = .ok x) : Calls Tryz.prog 110 #[baseV b.s n I, .int .i64 i] w fun e w' => e = .returned (.tuple #[inoV x, .int .i64 0]) ∧ Below w.heap.size w w' := by
  have S := Lib.hid (base_boxV w b.s n I)
  obtain ⟨c1, c2, c3, c4⟩ := taken_yes h
  have HI : Hid (∀ W l, Lo [] w l W → Calls Tryz.prog 80 #[baseV b.s n I, .int .i64 i] W fun e w' => e = .returned (.tuple #[inoV x, .int .i64 0]) ∧ Below W.heap.size W w') := Lib.hid (fun W l hl => by
    have := binode_yes (hl.store hst) v i c1 c2
    rw [← c3] at this
    exact this)
  have gk : (x.k == 0) = false := by rw [beq_eq_false_iff_ne]; exact c4
  clear v hst h c1 c2 c3 c4
  unfold baseV at HI ⊢
  go_enter Tryz.func110, Tryz.ntmps110
  go_wp2_with (first
    | (with_reducible refine wpList_load_base (S.out.get 0 _ rfl).base rfl (.tmp 2) rfl rfl ?_)
    | (go_at_call 80; refine (HI.out _ _ S.out).mono ?_; rintro e w1 ⟨rfl, hb⟩; replace S := Lib.hid (S.out.below hb); clear hb)
    | ((with_reducible refine wpList_store_newrow (vs := inoL x) inoT ?_ (inoL_one _) rfl (.tmp 6) (.tmp 12) rfl rfl ?_ ?_ ?_); (exact rfl); (exact rfl); (exact rfl); intro W4 hP hB2 hz2; replace S := Lib.hid (S.out.made hP hB2 hz2); clear hP hB2 hz2; have i0 := (S.out.get 2 _ rfl).cell 0 _ rfl)
    | (with_reducible refine wpList_load_rw inoT (S.out.get 2 _ rfl) rfl rfl (.tmp 6) rfl rfl ?_)
    | ((with_reducible refine wpList_store_rw (vs := inoL x) inoT (S.out.get 1 _ rfl) ?_ ?_ (inoL_one _) rfl (.tmp 4) (.tmp 22) rfl ?_ ?_ ?_); (exact rfl); (exact rfl); (exact rfl); (exact rfl)))
  have S2 := Lib.hid (S.out.put 1 _ rfl (inoL x) rfl)
  exact bodyPost_ret (results_row2 inoT _ 4 5 rfl _ (S2.out.get 1 _ rfl) rfl rfl rfl) rfl ⟨rfl, S2.out.bel⟩
theorem base_boxP (w : World) (st : Nat) (n I : Int) : Lo [] w [(w.heap.size, baseL st n I), (w.heap.size + 1, byteVals zeros)] ((w.alloc (.cells #[.pointer (some ⟨st, 0, none⟩), .int .i64 n, .int .i64 I] 70)).alloc (.cells zeroCells 97)) :=
  (base_box w st n I).alloc (w.heap.size + 1) (by simp) (byteVals zeros) 97
theorem Lo.page {L : List Nat} {w0 w : World} {l : List (Nat × List Value)} (h : Lo L w0 l w) (k : Nat) {B : Nat} {p : List UInt8} (hx : l[k]? = some (B, byteVals p)) (hp : p.length = 64) : PageAt w B p := (h.get k _ hx).page hp
theorem Lo.putP {L : List Nat} {w0 w : World} {l : List (Nat × List Value)} (h : Lo L w0 l w) (k : Nat) {B : Nat} {p : List UInt8} (hx : l[k]? = some (B, byteVals p)) (hp : p.length = 64) (q : List UInt8) (hq : q.length = 64) : Lo L w0 (l.set k (B, byteVals q)) (w.setCells B 0 (byteVals q)) :=
  h.put k (B, byteVals p) hx _ (by simp only [byteVals_length]; omega)
theorem bdata_zero {w : World} (b : Blk) (n I : Int) : Calls Tryz.prog 116 #[baseV b.s n I, .int .i64 0] w fun e w' => e = .returned (.tuple #[pageV zeros, .int .i64 0]) ∧ Below w.heap.size w w' := by
  have S0 := Lib.hid (base_box w b.s n I)
  unfold baseV
  go_enter Tryz.func116, Tryz.ntmps116
  go_wp2_with ((with_reducible refine wpList_store_new rfl (.tmp 4) (.tmp 8) rfl ?_ ?_ ?_ zeros_length ?_); (simp [Act.eval]); (exact rfl); (exact rfl); intro W2 hP hB2 hz2; have S := Lib.hid (S0.out.madeB (w.heap.size + 1) (by simp) hP.rowAt hB2 hz2); clear hP hB2 hz2)
  exact bodyPost_ret (results_page_int _ 4 5 rfl _ (S.out.page 1 rfl zeros_length) rfl) rfl ⟨rfl, S.out.bel⟩
theorem bdata_no {w : World} {b : Blk} {s : Sto} {n I : Int} (v : Vs s n I) (m : Int) (h0 : m ≠ 0) (h1 : ¬ Fs.isData n I m) : Calls Tryz.prog 116 #[baseV b.s n I, .int .i64 m] w fun e w' => e = .returned (.tuple #[pageV zeros, .int .i64 5]) ∧ Below w.heap.size w w' := by
  have S0 := Lib.hid (base_boxP w b.s n I)
  have HB : Hid (∀ w, Calls Tryz.prog 155 #[.agg #[.int .i64 n, .int .i64 I], .int .i64 m] w fun e w' => e = .returned (.int .i64 (-1)) ∧ Below w.heap.size w w') := Lib.hid (fun w => bit_no n I m w v.pl (by unfold Fs.isData at h1; omega))
  have g0 : (m == 0) = false := by rw [beq_eq_false_iff_ne]; exact h0
  clear v h0 h1
  unfold baseV
  go_enter Tryz.func116, Tryz.ntmps116
  go_wp2_with fail
  rw [← zeroCells_def]
  generalize hw : (w.alloc _).alloc _ = w1
  have S : Hid (Lo [] w [(w.heap.size, baseL b.s n I), (w.heap.size + 1, byteVals zeros)] w1) := Lib.hid (by rw [← hw]; exact S0.out)
  clear hw S0
  go_wp2_with (first
    | (go_at_call 155; (with_reducible refine (HB.out _).mono ?_); rintro e w2 ⟨rfl, hb⟩; replace S := Lib.hid (S.out.below hb); clear hb)
    | ((with_reducible refine wpList_store_page (S.out.page 1 rfl zeros_length) zeros_length rfl (.tmp 4) (.tmp 14) rfl rfl ?_ ?_); (exact rfl)))
  have S2 := Lib.hid (S.out.putP 1 rfl zeros_length zeros zeros_length)
  exact bodyPost_ret (results_page_int _ 4 5 rfl _ (S2.out.page 1 rfl zeros_length) rfl) rfl ⟨rfl, S2.out.bel⟩
theorem data_ok {s : Sto} {n I m : Int} (v : Vs s n I) (h : Fs.isData n I m) : okP n m ∧ m ≠ 0 := by
  obtain ⟨b1, b2, b3, b4, b5, b6⟩ := v.bd
  unfold Fs.isData at h
  exact ⟨⟨by omega, by omega, by omega⟩, by omega⟩
theorem bdata_yes {w : World} {b : Blk} {s : Sto} {n I : Int} (hst : StoreAt w b s) (v : Vs s n I) (m : Int) (h1 : Fs.isData n I m) : Calls Tryz.prog 116 #[baseV b.s n I, .int .i64 m] w fun e w' => e = .returned (.tuple #[pageV (nv s m.toNat), .int .i64 0]) ∧ Below w.heap.size w w' := by
  have S0 := Lib.hid (base_boxP w b.s n I)
  obtain ⟨k1, k2⟩ := data_ok v h1
  obtain ⟨r1, r2, r3⟩ := v.read k1
  have HB : Hid (∀ w, Calls Tryz.prog 155 #[.agg #[.int .i64 n, .int .i64 I], .int .i64 m] w fun e w' => e = .returned (.int .i64 (m - Pl.dataN I)) ∧ Below w.heap.size w w') := Lib.hid (fun w => bit_yes n I m w v.pl h1.1 h1.2)
  have HR : Hid (∀ W l, Lo [] w l W → Calls Tryz.prog 75 #[.pointer (some ⟨b.s, 0, none⟩), .int .i64 m] W fun e w' => e = .returned (.tuple #[pageV (nv s m.toNat), .int .i64 0]) ∧ Below W.heap.size W w') := Lib.hid (fun W l hl => by
    have := sread_any (hl.store hst) m
    rw [r1, r2] at this
    exact this)
  have HL := Lib.hid r3
  have g0 : (m == 0) = false := by rw [beq_eq_false_iff_ne]; exact k2
  have gb : 0 ≤ m - Pl.dataN I := by have := h1.1; omega
  clear v h1 k1 k2 r1 r2 r3 hst
  generalize nv s m.toNat = p at HR HL ⊢
  generalize m - Pl.dataN I = x at HB gb
  unfold baseV
  go_enter Tryz.func116, Tryz.ntmps116
  go_wp2_with fail
  rw [← zeroCells_def]
  generalize hw : (w.alloc _).alloc _ = w1
  have S : Hid (Lo [] w [(w.heap.size, baseL b.s n I), (w.heap.size + 1, byteVals zeros)] w1) := Lib.hid (by rw [← hw]; exact S0.out)
  clear hw S0
  go_wp2_with (first
    | (go_at_call 155; (with_reducible refine (HB.out _).mono ?_); rintro e w2 ⟨rfl, hb⟩; replace S := Lib.hid (S.out.below hb); clear hb; have c0 := (S.out.get 0 _ rfl).cell 0 _ rfl)
    | (go_at_call 75; (with_reducible refine (HR.out _ _ S.out).mono ?_); rintro e w2 ⟨rfl, hb⟩; clear c0; replace S := Lib.hid (S.out.below hb); clear hb)
    | ((with_reducible refine wpList_store_page (S.out.page 1 rfl zeros_length) HL.out rfl (.tmp 4) (.tmp 19) rfl rfl ?_ ?_); (exact rfl)))
  have S2 := Lib.hid (S.out.putP 1 rfl zeros_length p HL.out)
  exact bodyPost_ret (results_page_int _ 4 5 rfl _ (S2.out.page 1 rfl HL.out) rfl) rfl ⟨rfl, S2.out.bel⟩
theorem data_or (n I m : Int) (V : Fs.View) : (m = 0 ∧ Fs.dataF n I m V = .ok zeros) ∨ (m ≠ 0 ∧ Fs.isData n I m ∧ Fs.dataF n I m V = .ok (V m.toNat)) ∨ (m ≠ 0 ∧ ¬ Fs.isData n I m ∧ Fs.dataF n I m V = .error 5) := by
  unfold Fs.dataF
  by_cases c : m = 0
  · left; exact ⟨c, by rw [if_pos c]⟩
  · by_cases d : Fs.isData n I m
    · right; left; exact ⟨c, d, by rw [if_neg c, if_pos d]⟩
    · right; right; exact ⟨c, d, by rw [if_neg c, if_neg d]⟩
theorem data_len {s : Sto} {n I m : Int} {p : List UInt8} (v : Vs s n I) (h : Fs.dataF n I m (nv s) = .ok p) : p.length = 64 := by
  rcases data_or n I m (nv s) with ⟨_, e⟩ | ⟨_, d, e⟩ | ⟨_, _, e⟩
  · rw [e] at h; injection h with h; subst h; exact zeros_length
  · rw [e] at h; injection h with h; subst h; exact (v.read (data_ok v d).1).2.2
  · rw [e] at h; cases h
theorem data_err {n I m e : Int} {V : Fs.View} (h : Fs.dataF n I m V = .error e) : e = 5 := by
  rcases data_or n I m V with ⟨_, q⟩ | ⟨_, d, q⟩ | ⟨_, _, q⟩
  · rw [q] at h; cases h
  · rw [q] at h; cases h
  · rw [q] at h; injection h with h; exact h.symm
theorem bdata_any {w : World} {b : Blk} {s : Sto} {n I : Int} (hst : StoreAt w b s) (v : Vs s n I) (m : Int) : Calls Tryz.prog 116 #[baseV b.s n I, .int .i64 m] w fun e w' => e = .returned (exV pageV (pageV zeros) (Fs.dataF n I m (nv s))) ∧ Below w.heap.size w w' := by
  rcases data_or n I m (nv s) with ⟨h, e⟩ | ⟨h, d, e⟩ | ⟨h, d, e⟩
  · subst h; rw [e]; exact bdata_zero b n I
  · rw [e]; exact bdata_yes hst v m d
  · rw [e]; exact bdata_no v m h d
end

section
open Go.RowKit Go.Maps
open Dk (zeros zeros_length)
open Ii (Ino)
def offN (i : Int) : Nat := if Sp.dep i = 0 then 5 + (Sp.inn i).toNat else if Sp.dep i = 1 then 9 else 10
def WayYes (X : Nat) (i : Int) (w : World) (e : Ending) (w' : World) : Prop := ∃ A c, e = .returned (.tuple #[.pointer (some ⟨X, offN i, none⟩), .slice A (Fs.placesN i).length c]) ∧ IntRow w' A (Fs.placesN i).length (Fs.placesN i) ∧ Below w.heap.size w w' ∧ ∀ b o, A = some ⟨b, o, none⟩ → w.heap.size ≤ b
def WayNo (w : World) (e : Ending) (w' : World) : Prop := ∃ F, e = .returned (.tuple #[.pointer (some ⟨F, 0, none⟩), .slice none 0 0]) ∧ w'.cell? ⟨F, 0, none⟩ = some (.int .i64 0) ∧ w.heap.size ≤ F ∧ F < w'.heap.size ∧ Below w.heap.size w w'
theorem intRow_nil (w : World) : IntRow w none 0 [] := ⟨rfl, by unfold maxLen; omega, fun h => absurd h (by omega)⟩
theorem way_no (X : Nat) (i : Int) (w : World) (h : Sp.okB i = false) : Calls Tryz.prog 111 #[.pointer (some ⟨X, 0, none⟩), .int .i64 i] w (WayNo w) := by
  have HW : Hid (∀ w, Calls Tryz.prog 150 #[.int .i64 i] w fun e w' => e = .returned (.tuple #[wayV (Sp.dep i) (Sp.out i) (Sp.inn i), .bool false]) ∧ Below w.heap.size w w') := Lib.hid (fun w => by
    have := where_any i w
    unfold WhereGives at this
    rw [h] at this
    exact this)
  have S := Lib.hid (Lo.start (L := []) w (by simp))
  generalize Sp.dep i = d at HW
  generalize Sp.out i = o at HW
  generalize Sp.inn i = k at HW
  clear h
  go_enter Tryz.func111, Tryz.ntmps111
  go_wp2_with (first
    | (go_at_call 150; (with_reducible refine (HW.out _).mono ?_); rintro e w2 ⟨rfl, hb⟩; replace S := Lib.hid (S.out.below hb); clear hb)
    | ((with_reducible refine wpList_store_newrow (vs := wayL d o k) wayT ?_ (wayL_one _ _ _) rfl (.tmp 6) (.tmp 11) rfl rfl ?_ ?_ ?_); (exact rfl); (exact rfl); (exact rfl); intro W4 hP hB2 hz2; replace S := Lib.hid (S.out.made hP hB2 hz2); clear hP hB2 hz2))
  go_ret2
  exact ⟨W4.heap.size, rfl, by simp, S.out.only.size, by simp, (S.out.skip _).bel⟩
theorem intRow_new (w : World) (zs : List Int) (t : TypeId) (hl : zs.length ≤ 1000) : IntRow ((w.alloc (.cells (intVals zs).toArray t)).drew) (some ⟨w.heap.size, 0, none⟩) zs.length zs where
  len := rfl
  small := by unfold maxLen; omega
  cells := fun _ => ⟨w.heap.size, 0, rfl, by simp, fun i x hx => by
    rw [Nat.zero_add, World.cell?_drew, World.cell?_alloc_mark]
    unfold intVals
    simp [hx]⟩
theorem way_0 (X : Nat) (i : Int) (w : World) (h0 : 0 ≤ i) (h1 : i < 4) : Calls Tryz.prog 111 #[.pointer (some ⟨X, 0, none⟩), .int .i64 i] w (WayYes X i w) := by
  obtain ⟨p1, p2, p3, p4⟩ := Sp.page0 h0 h1
  have HW : Hid (∀ w, Calls Tryz.prog 150 #[.int .i64 i] w fun e w' => e = .returned (.tuple #[wayV 0 0 i, .bool true]) ∧ Below w.heap.size w w') := Lib.hid (fun w => by
    have := where_any i w
    unfold WhereGives at this
    rw [p1, p2, p3, p4] at this
    exact this)
  have HE : Hid (∀ e w', (e = .returned (.tuple #[.pointer (some ⟨X, 5 + i.toNat, none⟩), .slice none 0 0]) ∧ Below w.heap.size w w') → WayYes X i w e w') := Lib.hid (fun e w' ⟨h1, h2⟩ => by
    have e1 : Fs.placesN i = [] := by unfold Fs.placesN; rw [p1, if_pos rfl, p2, if_pos rfl]
    have e2 : offN i = 5 + i.toNat := by unfold offN; rw [p2, if_pos rfl, p4]
    unfold WayYes
    rw [e1, e2]
    exact ⟨none, 0, h1, intRow_nil _, h2, fun b o h => by cases h⟩)
  have S := Lib.hid (Lo.start (L := []) w (by simp))
  obtain ⟨k, rfl⟩ := Int.eq_ofNat_of_zero_le h0
  have hk : k < 4 := by omega
  rw [Int.toNat_natCast] at HE
  clear p1 p2 p3 p4
  go_enter Tryz.func111, Tryz.ntmps111
  go_wp2_with (first
    | (go_at_call 150; (with_reducible refine (HW.out _).mono ?_); rintro e w2 ⟨rfl, hb⟩; replace S := Lib.hid (S.out.below hb); clear hb)
    | ((with_reducible refine wpList_store_newrow (vs := wayL 0 0 (k : Int)) wayT ?_ (wayL_one _ _ _) rfl (.tmp 6) (.tmp 11) rfl rfl ?_ ?_ ?_); (exact rfl); (exact rfl); (exact rfl); intro W4 hP hB2 hz2; replace S := Lib.hid (S.out.made hP hB2 hz2); clear hP hB2 hz2; have c0 := (S.out.get 0 _ rfl).cell 0 _ rfl; have c1 := (S.out.get 0 _ rfl).cell 1 _ rfl; have c2 := (S.out.get 0 _ rfl).cell 2 _ rfl))
  go_quiet (fail)
  go_wp2
  go_ret2
  exact HE.out _ _ ⟨rfl, (S.out.drewN _).bel⟩
theorem way_1 (X : Nat) (i : Int) (w : World) (h0 : 4 ≤ i) (h1 : i < 36) : Calls Tryz.prog 111 #[.pointer (some ⟨X, 0, none⟩), .int .i64 i] w (WayYes X i w) := by
  obtain ⟨p1, p2, p3, p4⟩ := Sp.page1 h0 h1
  have HW : Hid (∀ w, Calls Tryz.prog 150 #[.int .i64 i] w fun e w' => e = .returned (.tuple #[wayV 1 0 (i - 4), .bool true]) ∧ Below w.heap.size w w') := Lib.hid (fun w => by
    have := where_any i w
    unfold WhereGives at this
    rw [p1, p2, p3, p4] at this
    exact this)
  have HE : Hid (∀ e w', (∃ A c, e = .returned (.tuple #[.pointer (some ⟨X, 9, none⟩), .slice A 1 c]) ∧ IntRow w' A 1 [i - 4] ∧ Below w.heap.size w w' ∧ ∀ b o, A = some ⟨b, o, none⟩ → w.heap.size ≤ b) → WayYes X i w e w') := Lib.hid (fun e w' ⟨A, c, h1, h2, h3⟩ => by
    have e1 : Fs.placesN i = [i - 4] := by unfold Fs.placesN; rw [p1, if_pos rfl, p2, if_neg (by decide), if_pos rfl, p4]
    have e2 : offN i = 9 := by unfold offN; rw [p2, if_neg (by decide), if_pos rfl]
    unfold WayYes
    rw [e1, e2]
    exact ⟨A, c, h1, h2, h3⟩)
  have S := Lib.hid (Lo.start (L := []) w (by simp))
  clear p1 p2 p3 p4
  generalize i - 4 = k at HW HE
  go_enter Tryz.func111, Tryz.ntmps111
  go_wp2_with (first
    | (go_at_call 150; (with_reducible refine (HW.out _).mono ?_); rintro e w2 ⟨rfl, hb⟩; replace S := Lib.hid (S.out.below hb); clear hb)
    | ((with_reducible refine wpList_store_newrow (vs := wayL 1 0 k) wayT ?_ (wayL_one _ _ _) rfl (.tmp 6) (.tmp 11) rfl rfl ?_ ?_ ?_); (exact rfl); (exact rfl); (exact rfl); intro W4 hP hB2 hz2; replace S := Lib.hid (S.out.made hP hB2 hz2); clear hP hB2 hz2; have c0 := (S.out.get 0 _ rfl).cell 0 _ rfl; have c1 := (S.out.get 0 _ rfl).cell 1 _ rfl; have c2 := (S.out.get 0 _ rfl).cell 2 _ rfl))
  go_region
  all_goals
    go_wp2
    go_ret2
    exact HE.out _ _ ⟨_, _, rfl, intRow_new W4 [k] _ (by simp), ((S.out.skip _).drew).bel, fun b o h => by injection h with h; injection h with h; subst h; exact S.out.only.size⟩
theorem way_2 (X : Nat) (i : Int) (w : World) (h0 : 36 ≤ i) (h1 : i < 1060) : Calls Tryz.prog 111 #[.pointer (some ⟨X, 0, none⟩), .int .i64 i] w (WayYes X i w) := by
  obtain ⟨p1, p2, p3, p4⟩ := Sp.page2 h0 h1
  have HW : Hid (∀ w, Calls Tryz.prog 150 #[.int .i64 i] w fun e w' => e = .returned (.tuple #[wayV 2 (Sp.out i) (Sp.inn i), .bool true]) ∧ Below w.heap.size w w') := Lib.hid (fun w => by
    have := where_any i w
    unfold WhereGives at this
    rw [p1, p2] at this
    exact this)
  have HE : Hid (∀ e w', (∃ A c, e = .returned (.tuple #[.pointer (some ⟨X, 10, none⟩), .slice A 2 c]) ∧ IntRow w' A 2 [Sp.out i, Sp.inn i] ∧ Below w.heap.size w w' ∧ ∀ b o, A = some ⟨b, o, none⟩ → w.heap.size ≤ b) → WayYes X i w e w') := Lib.hid (fun e w' ⟨A, c, h1, h2, h3⟩ => by
    have e1 : Fs.placesN i = [Sp.out i, Sp.inn i] := by unfold Fs.placesN; rw [p1, if_pos rfl, p2, if_neg (by decide), if_neg (by decide)]
    have e2 : offN i = 10 := by unfold offN; rw [p2, if_neg (by decide), if_neg (by decide)]
    unfold WayYes
    rw [e1, e2]
    exact ⟨A, c, h1, h2, h3⟩)
  have S := Lib.hid (Lo.start (L := []) w (by simp))
  clear p1 p2 p3 p4
  generalize Sp.inn i = k at HW HE
  generalize Sp.out i = o at HW HE
  go_enter Tryz.func111, Tryz.ntmps111
  go_wp2_with (first
    | (go_at_call 150; (with_reducible refine (HW.out _).mono ?_); rintro e w2 ⟨rfl, hb⟩; replace S := Lib.hid (S.out.below hb); clear hb)
    | ((with_reducible refine wpList_store_newrow (vs := wayL 2 o k) wayT ?_ (wayL_one _ _ _) rfl (.tmp 6) (.tmp 11) rfl rfl ?_ ?_ ?_); (exact rfl); (exact rfl); (exact rfl); intro W4 hP hB2 hz2; replace S := Lib.hid (S.out.made hP hB2 hz2); clear hP hB2 hz2; have c0 := (S.out.get 0 _ rfl).cell 0 _ rfl; have c1 := (S.out.get 0 _ rfl).cell 1 _ rfl; have c2 := (S.out.get 0 _ rfl).cell 2 _ rfl))
  go_region
  all_goals
    go_wp2
    go_ret2
    exact HE.out _ _ ⟨_, _, rfl, intRow_new W4 [o, k] _ (by simp), ((S.out.skip _).drew).bel, fun b o h => by injection h with h; injection h with h; subst h; exact S.out.only.size⟩
theorem way_yes (X : Nat) (i : Int) (w : World) (h : Sp.okB i = true) : Calls Tryz.prog 111 #[.pointer (some ⟨X, 0, none⟩), .int .i64 i] w (WayYes X i w) := by
  rcases Sp.kinds i with c | ⟨c1, c2⟩ | ⟨c1, c2⟩ | ⟨c1, c2⟩
  · rw [(Sp.no_page c).1] at h; cases h
  · exact way_0 X i w c1 c2
  · exact way_1 X i w c1 c2
  · exact way_2 X i w c1 c2
theorem first_cell {w : World} {X : Nat} {x : Ino} (h : RowAt w X (inoL x)) (i : Int) (hi : Sp.okB i = true) : w.cell? ⟨X, offN i, none⟩ = some (.int .i64 (Fs.firstN x i)) := by
  refine h.cell _ _ ?_
  unfold offN Fs.firstN
  rw [if_pos hi]
  rcases Sp.kinds i with c | ⟨c1, c2⟩ | ⟨c1, c2⟩ | ⟨c1, c2⟩
  · rw [(Sp.no_page c).1] at hi; cases hi
  · obtain ⟨_, p2, _, p4⟩ := Sp.page0 c1 c2
    rw [p2, if_pos rfl, if_pos rfl, p4]
    obtain ⟨k, rfl⟩ := Int.eq_ofNat_of_zero_le c1
    rw [Int.toNat_natCast]
    have : k = 0 ∨ k = 1 ∨ k = 2 ∨ k = 3 := by omega
    rcases this with rfl | rfl | rfl | rfl <;> rfl
  · obtain ⟨_, p2, _, _⟩ := Sp.page1 c1 c2
    rw [p2, if_neg (by decide), if_pos rfl, if_neg (by decide), if_pos rfl]; rfl
  · obtain ⟨_, p2, _, _⟩ := Sp.page2 c1 c2
    rw [p2, if_neg (by decide), if_neg (by decide), if_neg (by decide), if_neg (by decide)]; rfl
theorem find_box (w : World) (st : Nat) (n I : Int) (x : Ino) : Lo [] w [(w.heap.size, baseL st n I), (w.heap.size + 1, inoL x)] ((w.alloc (.cells #[.pointer (some ⟨st, 0, none⟩), .int .i64 n, .int .i64 I] 70)).alloc (.cells (inoL x).toArray 47)) :=
  (base_box w st n I).alloc (w.heap.size + 1) (by simp) (inoL x) 47
theorem places_len (i : Int) : (Fs.placesN i).length ≤ 2 := by
  unfold Fs.placesN
  split
  · split
    · simp
    · split <;> simp
  · simp
theorem bfind_no {w : World} {b : Blk} (n I : Int) (x : Ino) (i : Int) (h : Sp.okB i = false) : Calls Tryz.prog 178 #[baseV b.s n I, inoV x, .int .i64 i] w fun e w' => e = .returned (.tuple #[.int .i64 0, .int .i64 0]) ∧ Below w.heap.size w w' := by
  have S := Lib.hid (find_box w b.s n I x)
  have HW := Lib.hid (fun X w => way_no X i w h)
  clear h
  unfold baseV inoV
  go_enter Tryz.func178, Tryz.ntmps178
  go_wp2_with (go_at_call 111; (with_reducible refine (HW.out _ _).mono ?_); rintro e w2 ⟨F, rfl, cF, _, _, hb⟩; replace S := Lib.hid (S.out.below hb); clear hb)
  go_loop [10, 25] (fun m i => m = .int .i64 0 ∧ i = .int .i64 0) (fun _ _ => 0)
  case atStart => exact ⟨rfl, rfl⟩
  case round =>
    obtain ⟨rfl, rfl⟩ := hrel
    go_wp2
    go_ret2
    exact ⟨rfl, S.out.bel⟩
theorem bfind_yes {w : World} {b : Blk} {s : Sto} {n I : Int} (hst : StoreAt w b s) (v : Vs s n I) (x : Ino) (i : Int) (h : Sp.okB i = true) : Calls Tryz.prog 178 #[baseV b.s n I, inoV x, .int .i64 i] w fun e w' => e = .returned (exV (fun m => .int .i64 m) (.int .i64 0) (Fs.findF n I x i (nv s))) ∧ Below w.heap.size w w' := by
  have S := Lib.hid (find_box w b.s n I x)
  have HW := Lib.hid (fun X w => way_yes X i w h)
  have HF := Lib.hid (fun (W : World) (l : List (Nat × List Value)) (hW : Lo [] w [(w.heap.size, baseL b.s n I), (w.heap.size + 1, inoL x)] W) => first_cell (hW.get 1 _ rfl) i h)
  have HD : Hid (∀ W l m, Lo [] w l W → Calls Tryz.prog 116 #[baseV b.s n I, .int .i64 m] W fun e w' => e = .returned (exV pageV (pageV zeros) (Fs.dataF n I m (nv s))) ∧ Below W.heap.size W w') := Lib.hid (fun W l m hl => bdata_any (hl.store hst) v m)
  have HLN := Lib.hid (fun (m : Int) (p : List UInt8) (hd : Fs.dataF n I m (nv s) = .ok p) => data_len v hd)
  have HER := Lib.hid (fun (m e : Int) (hd : Fs.dataF n I m (nv s) = .error e) => data_err hd)
  unfold Fs.findF
  have hl2 := places_len i
  unfold WayYes at HW
  clear h v hst
  generalize Fs.placesN i = ks at HW hl2 ⊢
  generalize Fs.firstN x i = m0 at HF ⊢
  generalize offN i = off0 at HW HF
  generalize hR0 : Fs.goF n I (nv s) ks m0 = R
  have HR0 := Lib.hid hR0
  clear hR0
  unfold baseV inoV
  unfold baseV at HD
  go_enter Tryz.func178, Tryz.ntmps178
  go_wp2_with (go_at_call 111; (with_reducible refine (HW.out _ _).mono ?_); rintro e w2 ⟨A, c, rfl, hR, hb, _⟩; replace S := Lib.hid (S.out.below hb); have HRW := Lib.hid hR; have hF0 := HF.out _ [] S.out; clear hR hb)
  clear hF0 HW HF
  obtain ⟨len, hlen⟩ : ∃ len, ks.length = len := ⟨_, rfl⟩
  have HLE := Lib.hid hlen
  rw [hlen] at hl2 HRW ⊢
  clear hlen
  go_loopw [10, 25] (fun m i wr => ∃ (k : Nat) (y : Int), k ≤ len ∧ i = .int .i64 k ∧ m = .int .i64 y ∧ Hid (Fs.goF n I (nv s) (ks.drop k) y = R) ∧ Lo [] w [(w.heap.size, baseL b.s n I), (w.heap.size + 1, inoL x)] wr ∧ IntRow wr A len ks) (fun _ i _ => len - (intOf i).toNat)
  case atStart => exact ⟨0, m0, Nat.zero_le _, rfl, rfl, HR0, S.out, HRW.out⟩
  case round =>
    obtain ⟨k, y, hk, rfl, rfl, HG, hS, hR⟩ := hrel
    replace S := Lib.hid hS
    replace HRW := Lib.hid hR
    clear hS hR
    by_cases hlt : k < len
    · obtain ⟨bb, off, rfl, hbb, hcc⟩ := HRW.out.cells (by omega)
      obtain ⟨kk, hkk⟩ : ∃ kk, ks[k]? = some kk := ⟨_, List.getElem?_eq_getElem (by rw [HLE.out]; exact hlt)⟩
      have ck := hcc k kk hkk
      have HDR : Hid (ks.drop k = kk :: ks.drop (k + 1)) := Lib.hid (by
        obtain ⟨q1, q2⟩ := List.getElem?_eq_some_iff.1 hkk
        rw [List.drop_eq_getElem_cons q1, q2])
      clear hcc hkk hbb
      rw [HDR.out] at HG
      unfold Fs.goF at HG
      cases hd : Fs.dataF n I y (nv s) with
      | ok p =>
        have HP := Lib.hid (HLN.out y p hd)
        have HDD := Lib.hid (fun (W : World) (l : List (Nat × List Value)) (hl : Lo [] w l W) => HD.out W l y hl)
        rw [hd] at HG HDD
        simp only [exV] at HDD
        clear hd
        have HN : Hid (∀ W, Calls Tryz.prog 113 #[pageV p, .int .i64 kk] W fun e w' => e = .returned (.int .i64 (numN p kk)) ∧ Below W.heap.size W w') := Lib.hid (fun W => number_any p kk W HP.out)
        go_wp2_with (first
          | (with_reducible refine wpList_load_base (S.out.get 0 _ rfl).base rfl (.tmp 3) rfl rfl ?_)
          | (go_at_call 116; refine (HDD.out _ _ S.out).mono ?_; rintro e w3 ⟨rfl, hb⟩; replace S := Lib.hid (S.out.below hb); replace HRW := Lib.hid (HRW.out.step hb); clear hb ck)
          | ((with_reducible refine wpList_store_new rfl (.tmp 13) (.tmp 33) rfl rfl ?_ ?_ HP.out ?_); (exact rfl); (exact rfl); intro W2 hP hB2 hz2; replace S := Lib.hid (S.out.made hP.rowAt hB2 hz2); replace HRW := Lib.hid (HRW.out.step hB2); clear hP hB2 hz2)
          | (with_reducible refine wpList_load_page (S.out.page 2 rfl HP.out) rfl (.tmp 13) rfl rfl ?_)
          | (go_at_call 113; (with_reducible refine (HN.out _).mono ?_); rintro e w4 ⟨rfl, hb⟩; replace S := Lib.hid (S.out.below hb); replace HRW := Lib.hid (HRW.out.step hb); clear hb))
        go_roundw
        case rel => exact ⟨k + 1, _, by omega, by go_num, rfl, HG, S.out.cut 2, HRW.out⟩
        case measure => simp [intOf]; omega
      | error er =>
        have he5 := HER.out y er hd
        subst he5
        have HDD := Lib.hid (fun (W : World) (l : List (Nat × List Value)) (hl : Lo [] w l W) => HD.out W l y hl)
        rw [hd] at HG HDD
        simp only [exV] at HDD
        clear hd
        go_wp2_with (first
          | (with_reducible refine wpList_load_base (S.out.get 0 _ rfl).base rfl (.tmp 3) rfl rfl ?_)
          | (go_at_call 116; refine (HDD.out _ _ S.out).mono ?_; rintro e w3 ⟨rfl, hb⟩; replace S := Lib.hid (S.out.below hb); replace HRW := Lib.hid (HRW.out.step hb); clear hb ck)
          | ((with_reducible refine wpList_store_new rfl (.tmp 13) (.tmp 33) rfl rfl ?_ ?_ zeros_length ?_); (exact rfl); (exact rfl); intro W2 hP hB2 hz2; replace S := Lib.hid (S.out.made hP.rowAt hB2 hz2); clear hP hB2 hz2))
        go_ret2
        rw [← HG.out]
        exact ⟨rfl, S.out.bel⟩
    · obtain rfl : k = len := by omega
      have HZ : Hid (ks.drop k = []) := Lib.hid (List.drop_of_length_le (by rw [HLE.out]; omega))
      rw [HZ.out] at HG
      go_wp2_with fail
      go_ret2
      rw [← HG.out]
      exact ⟨rfl, S.out.bel⟩
theorem bfind_any {w : World} {b : Blk} {s : Sto} {n I : Int} (hst : StoreAt w b s) (v : Vs s n I) (x : Ino) (i : Int) : Calls Tryz.prog 178 #[baseV b.s n I, inoV x, .int .i64 i] w fun e w' => e = .returned (exV (fun m => .int .i64 m) (.int .i64 0) (Fs.findF n I x i (nv s))) ∧ Below w.heap.size w w' := by
  cases h : Sp.okB i with
  | false =>
    have e : Fs.findF n I x i (nv s) = .ok 0 := by
      unfold Fs.findF Fs.placesN Fs.firstN
      rw [h, if_neg (by decide), if_neg (by decide)]; rfl
    rw [e]
    exact bfind_no n I x i h
  | true => exact bfind_yes hst v x i h
theorem go_err {n I : Int} {V : Fs.View} : ∀ (ks : List Int) (m : Int) {e : Int}, Fs.goF n I V ks m = .error e → e = 5
  | [], m, e, h => by cases h
  | k :: ks, m, e, h => by
    rw [Fs.goF] at h
    cases hd : Fs.dataF n I m V with
    | ok p => rw [hd] at h; exact go_err ks _ h
    | error er => rw [hd] at h; injection h with h; rw [← h]; exact data_err hd
theorem find_err {n I : Int} {V : Fs.View} {x : Ino} {i e : Int} (h : Fs.findF n I x i V = .error e) : e = 5 := go_err _ _ h
theorem page_err {n I : Int} {V : Fs.View} {x : Ino} {i e : Int} (h : Fs.pageF n I x i V = .error e) : e = 5 := by
  unfold Fs.pageF at h
  cases hd : Fs.findF n I x i V with
  | ok m => rw [hd] at h; exact data_err h
  | error er => rw [hd] at h; injection h with h; rw [← h]; exact find_err hd
theorem page_len {s : Sto} {n I : Int} {x : Ino} {i : Int} {p : List UInt8} (v : Vs s n I) (h : Fs.pageF n I x i (nv s) = .ok p) : p.length = 64 := by
  unfold Fs.pageF at h
  cases hd : Fs.findF n I x i (nv s) with
  | ok m => rw [hd] at h; exact data_len v h
  | error er => rw [hd] at h; cases h
theorem page_box (w : World) (st : Nat) (n I : Int) (x : Ino) : Lo [] w [(w.heap.size, baseL st n I), (w.heap.size + 1, inoL x), (w.heap.size + 2, byteVals zeros)] (((w.alloc (.cells #[.pointer (some ⟨st, 0, none⟩), .int .i64 n, .int .i64 I] 70)).alloc (.cells (inoL x).toArray 47)).alloc (.cells zeroCells 97)) :=
  (find_box w st n I x).alloc (w.heap.size + 2) (by simp) (byteVals zeros) 97
theorem bpage_any {w : World} {b : Blk} {s : Sto} {n I : Int} (hst : StoreAt w b s) (v : Vs s n I) (x : Ino) (i : Int) : Calls Tryz.prog 160 #[baseV b.s n I, inoV x, .int .i64 i] w fun e w' => e = .returned (exV pageV (pageV zeros) (Fs.pageF n I x i (nv s))) ∧ Below w.heap.size w w' := by
  have S0 := Lib.hid (page_box w b.s n I x)
  have HF : Hid (∀ W l, Lo [] w l W → Calls Tryz.prog 178 #[baseV b.s n I, inoV x, .int .i64 i] W fun e w' => e = .returned (exV (fun m => .int .i64 m) (.int .i64 0) (Fs.findF n I x i (nv s))) ∧ Below W.heap.size W w') := Lib.hid (fun W l hl => bfind_any (hl.store hst) v x i)
  have HD : Hid (∀ W l m, Lo [] w l W → Calls Tryz.prog 116 #[baseV b.s n I, .int .i64 m] W fun e w' => e = .returned (exV pageV (pageV zeros) (Fs.dataF n I m (nv s))) ∧ Below W.heap.size W w') := Lib.hid (fun W l m hl => bdata_any (hl.store hst) v m)
  have HLN := Lib.hid (fun (m : Int) (p : List UInt8) (hd : Fs.dataF n I m (nv s) = .ok p) => data_len v hd)
  unfold Fs.pageF
  cases hf : Fs.findF n I x i (nv s) with
  | error er =>
    have he5 := find_err hf
    subst he5
    rw [hf] at HF
    simp only [exV] at HF ⊢
    clear v hst hf HD HLN
    unfold baseV inoV at HF ⊢
    go_enter Tryz.func160, Tryz.ntmps160
    go_wp2_with fail
    rw [← zeroCells_def]
    generalize hw : World.alloc _ _ = w1
    have S : Hid (Lo [] w [(w.heap.size, baseL b.s n I), (w.heap.size + 1, inoL x), (w.heap.size + 2, byteVals zeros)] w1) := Lib.hid (by rw [← hw]; exact S0.out)
    clear hw S0
    go_wp2_with (first
      | (go_at_call 178; refine (HF.out _ _ S.out).mono ?_; rintro e w3 ⟨rfl, hb⟩; replace S := Lib.hid (S.out.below hb); clear hb)
      | ((with_reducible refine wpList_store_page (S.out.page 2 rfl zeros_length) zeros_length rfl (.tmp 6) (.tmp 19) rfl rfl ?_ ?_); (exact rfl)))
    have S2 := Lib.hid (S.out.putP 2 rfl zeros_length zeros zeros_length)
    exact bodyPost_ret (results_page_int _ 6 7 rfl _ (S2.out.page 2 rfl zeros_length) rfl) rfl ⟨rfl, S2.out.bel⟩
  | ok m =>
    rw [hf] at HF
    simp only [exV] at HF ⊢
    cases hd : Fs.dataF n I m (nv s) with
    | error er =>
      have he5 := data_err hd
      subst he5
      have HDD := Lib.hid (fun (W : World) (l : List (Nat × List Value)) (hl : Lo [] w l W) => HD.out W l m hl)
      rw [hd] at HDD
      simp only [exV] at HDD ⊢
      clear v hst hf hd HD HLN
      unfold baseV inoV at HF ⊢
      unfold baseV at HDD
      go_enter Tryz.func160, Tryz.ntmps160
      go_wp2_with fail
      rw [← zeroCells_def]
      generalize hw : World.alloc _ _ = w1
      have S : Hid (Lo [] w [(w.heap.size, baseL b.s n I), (w.heap.size + 1, inoL x), (w.heap.size + 2, byteVals zeros)] w1) := Lib.hid (by rw [← hw]; exact S0.out)
      clear hw S0
      go_wp2_with (first
        | (go_at_call 178; refine (HF.out _ _ S.out).mono ?_; rintro e w3 ⟨rfl, hb⟩; replace S := Lib.hid (S.out.below hb); clear hb)
        | (with_reducible refine wpList_load_base (S.out.get 0 _ rfl).base rfl (.tmp 3) rfl rfl ?_)
        | (go_at_call 116; refine (HDD.out _ _ S.out).mono ?_; rintro e w3 ⟨rfl, hb⟩; replace S := Lib.hid (S.out.below hb); clear hb)
        | ((with_reducible refine wpList_store_page (S.out.page 2 rfl zeros_length) zeros_length rfl (.tmp 6) (.tmp 24) rfl rfl ?_ ?_); (exact rfl)))
      have S2 := Lib.hid (S.out.putP 2 rfl zeros_length zeros zeros_length)
      exact bodyPost_ret (results_page_int _ 6 7 rfl _ (S2.out.page 2 rfl zeros_length) rfl) rfl ⟨rfl, S2.out.bel⟩
    | ok p =>
      have HP := Lib.hid (HLN.out m p hd)
      have HDD := Lib.hid (fun (W : World) (l : List (Nat × List Value)) (hl : Lo [] w l W) => HD.out W l m hl)
      rw [hd] at HDD
      simp only [exV] at HDD ⊢
      clear v hst hf hd HD HLN
      unfold baseV inoV at HF ⊢
      unfold baseV at HDD
      go_enter Tryz.func160, Tryz.ntmps160
      go_wp2_with fail
      rw [← zeroCells_def]
      generalize hw : World.alloc _ _ = w1
      have S : Hid (Lo [] w [(w.heap.size, baseL b.s n I), (w.heap.size + 1, inoL x), (w.heap.size + 2, byteVals zeros)] w1) := Lib.hid (by rw [← hw]; exact S0.out)
      clear hw S0
      go_wp2_with (first
        | (go_at_call 178; refine (HF.out _ _ S.out).mono ?_; rintro e w3 ⟨rfl, hb⟩; replace S := Lib.hid (S.out.below hb); clear hb)
        | (with_reducible refine wpList_load_base (S.out.get 0 _ rfl).base rfl (.tmp 3) rfl rfl ?_)
        | (go_at_call 116; refine (HDD.out _ _ S.out).mono ?_; rintro e w3 ⟨rfl, hb⟩; replace S := Lib.hid (S.out.below hb); clear hb)
        | ((with_reducible refine wpList_store_page (S.out.page 2 rfl zeros_length) HP.out rfl (.tmp 6) (.tmp 24) rfl rfl ?_ ?_); (exact rfl)))
      have S2 := Lib.hid (S.out.putP 2 rfl zeros_length p HP.out)
      exact bodyPost_ret (results_page_int _ 6 7 rfl _ (S2.out.page 2 rfl HP.out) rfl) rfl ⟨rfl, S2.out.bel⟩
end

section
open Go.RowKit Go.Maps
open Dk (zeros zeros_length)
open Ii (Ino)
def pcL (c : Fs.Pc) : List Value := [.int .i64 (c.idx : Int), .int .i64 (c.at1 : Int), .int .i64 (c.size : Int)]
theorem pcL_one (c : Fs.Pc) : ∀ v ∈ pcL c, v.oneCell' = true := by
  intro v hv
  simp [pcL] at hv
  rcases hv with rfl | rfl | rfl <;> rfl
theorem pcL_length (c : Fs.Pc) : (pcL c).length = 3 := rfl
theorem pcT : RowT 110 3 := ⟨⟨_, Tryz.underlying110, rfl⟩, by kernel_rfl⟩
theorem info_pc : (Tryz.prog.info? 110).map (fun i => (i.zero, i.size, i.bytes)) = some (some (.agg #[.int .i64 0, .int .i64 0, .int .i64 0]), 3, 24) := by kernel_rfl
structure PcRow (w : World) (A : Option Addr) (cs : List Fs.Pc) : Prop where
  cells : 0 < cs.length → ∃ b off, A = some ⟨b, off, none⟩ ∧ b < w.heap.size ∧ ∀ i c, cs[i]? = some c → w.rangeAt b (off + i * 3) (pcL c)
theorem PcRow.step {w w' : World} {A : Option Addr} {cs : List Fs.Pc} (h : PcRow w A cs) (hb : Below w.heap.size w w') : PcRow w' A cs :=
  ⟨fun h0 => by
    obtain ⟨b, off, e, hlt, hc⟩ := h.cells h0
    exact ⟨b, off, e, Nat.lt_of_lt_of_le hlt hb.size, fun i c hi j v hv => (hb.cell (p := ⟨b, off + i * 3 + j, none⟩) hlt).trans (hc i c hi j v hv)⟩⟩
theorem PcRow.only {w w' : World} {A : Option Addr} {cs : List Fs.Pc} {L : List Nat} (h : PcRow w A cs) (ho : Only L w w') (hL : ∀ b off, A = some ⟨b, off, none⟩ → b ∉ L) : PcRow w' A cs :=
  ⟨fun h0 => by
    obtain ⟨b, off, e, hlt, hc⟩ := h.cells h0
    exact ⟨b, off, e, Nat.lt_of_lt_of_le hlt ho.size, fun i c hi => rangeAt_block (hc i c hi) (ho.block b hlt (hL b off e))⟩⟩
theorem pflat_at : ∀ (xs : List Fs.Pc) (i : Nat) (x : Fs.Pc) (j : Nat) (v : Value), xs[i]? = some x → (pcL x)[j]? = some v → (xs.flatMap pcL)[i * 3 + j]? = some v
  | [], i, x, j, v, hx, _ => by simp at hx
  | y :: r, 0, x, j, v, hx, hv => by
    simp at hx
    subst hx
    have hj : j < 3 := (List.getElem?_eq_some_iff.1 hv).1
    rw [List.flatMap_cons, Nat.zero_mul, Nat.zero_add, List.getElem?_append_left (by rw [pcL_length]; exact hj)]
    exact hv
  | y :: r, i + 1, x, j, v, hx, hv => by
    rw [List.flatMap_cons, List.getElem?_append_right (by rw [pcL_length]; omega), pcL_length, show (i + 1) * 3 + j - 3 = i * 3 + j by omega]
    exact pflat_at r i x j v (by simpa using hx) hv
theorem owns_pcRow {w : World} {base : Nat} {A : Option Addr} {n c : Nat} {xs : List Fs.Pc} (h : w.ownsRow base 110 3 (.slice A n c) n (xs.flatMap pcL)) (hn : n = xs.length) : PcRow w A xs := ⟨fun h0 => by
  obtain ⟨h1, h2⟩ := h
  rcases h2 with ⟨e, e2⟩ | ⟨g, cap, cur, e, hb, hg, _, _, hsz, htk⟩
  · exfalso; omega
  · injection e with e _ _
    refine ⟨g, 0, e, (Array.getElem?_eq_some_iff.1 hg).1, fun i x hxi j v hv => ?_⟩
    have hf := pflat_at xs i x j v hxi hv
    rw [← htk] at hf
    have hlt : i * 3 + j < n * 3 := by
      have := (List.getElem?_eq_some_iff.1 hf).1
      rw [List.length_take] at this; omega
    rw [List.getElem?_take_of_lt hlt] at hf
    simp only [World.cell?, hg, Nat.zero_add]
    simp only [Option.isSome_none, Bool.false_eq_true, if_false]
    rw [← Array.getElem?_toList]
    exact hf⟩
theorem Only.grownL {L : List Nat} {w0 w w' : World} {r : Option Nat} (h : Only L w0 w) (hg : w.grownBy w' r) (hr : ∀ j, r = some j → w0.heap.size ≤ j) : Only L w0 w' where
  os := hg.os.trans h.os
  tape := hg.tape.trans h.tape
  output := hg.output.trans h.output
  size := Nat.le_trans h.size hg.size
  block := fun k hk hn => (hg.block k (Nat.lt_of_lt_of_le hk h.size) (fun e => by have := hr k e.symm; omega)).trans (h.block k hk hn)
theorem Lo.grown {L : List Nat} {w0 w w' : World} {l : List (Nat × List Value)} {r : Option Nat} (h : Lo L w0 l w) (hg : w.grownBy w' r) (hr : ∀ j, r = some j → w0.heap.size ≤ j ∧ ∀ x ∈ l, x.1 ≠ j) : Lo L w0 l w' where
  row := fun x hx => by
    obtain ⟨h1, h2, h3⟩ := h.row x hx
    exact ⟨h1.block (hg.block _ h3 (fun e => (hr _ e.symm).2 x hx rfl)), h2, Nat.lt_of_lt_of_le h3 hg.size⟩
  ne := h.ne
  only := h.only.grownL hg (fun j e => (hr j e).1)
  low := h.low
theorem pieces_none (off n : Int) (w : World) (h : n ≤ 0) : Calls Tryz.prog 64 #[.int .i64 off, .int .i64 n] w fun e w' => e = .returned (.slice none 0 0) ∧ w = w' := by
  have h' : ¬ (0 < n) := by omega
  go_enter Tryz.func64, Tryz.ntmps64
  go_wp2
  go_loop [0, 1, 5] (fun o m l => o = .int .i64 off ∧ m = .int .i64 n ∧ l = .slice none 0 0) (fun _ _ _ => 0)
  case atStart => exact ⟨rfl, rfl, rfl⟩
  case round =>
    obtain ⟨rfl, rfl, rfl⟩ := hrel
    go_wp2
    go_ret
    exact ⟨rfl, rfl⟩
def PcsGive (cs : List Fs.Pc) (w : World) (e : Ending) (w' : World) : Prop := ∃ A c, e = .returned (.slice A cs.length c) ∧ PcRow w' A cs ∧ (∀ b off, A = some ⟨b, off, none⟩ → w.heap.size ≤ b) ∧ Below w.heap.size w w'
theorem pieces_some (off n : Nat) (w : World) (h1 : n ≤ 67840) (h2 : off ≤ 5000000000) : Calls Tryz.prog 64 #[.int .i64 (off : Int), .int .i64 (n : Int)] w (PcsGive (Fs.pieces off n) w) := by
  have HS0 := Lib.hid (Lo.start (L := []) w (by simp))
  have HOW : Hid (w.ownsRow w.heap.size 110 3 (.slice none 0 0) 0 (([] : List Fs.Pc).flatMap pcL)) := Lib.hid ⟨rfl, Or.inl ⟨rfl, rfl⟩⟩
  generalize hPC : Fs.pieces off n = all
  have HPC := Lib.hid hPC
  clear hPC
  go_enter Tryz.func64, Tryz.ntmps64
  go_wp2
  go_loopw [0, 1, 5] (fun o m l wr => ∃ (x y : Nat) (done : List Fs.Pc) (A : Option Addr) (c k : Nat), x + y ≤ off + n ∧ y ≤ n ∧ k + y ≤ n ∧ o = .int .i64 (x : Int) ∧ m = .int .i64 (y : Int) ∧ l = .slice A k c ∧ Hid (k = done.length) ∧ Hid (done ++ Fs.pieces x y = all) ∧ wr.ownsRow w.heap.size 110 3 (.slice A k c) k (done.flatMap pcL) ∧ Lo [] w [] wr) (fun _ m _ _ => (intOf m).toNat)
  case atStart => exact ⟨off, n, [], none, 0, 0, Nat.le_refl _, Nat.le_refl _, by omega, rfl, rfl, rfl, Lib.hid rfl, HPC, HOW.out, HS0.out⟩
  case round =>
    obtain ⟨x, y, done, A, c, k, hxy, hyn, hky, rfl, rfl, rfl, HK, HD, hown, hS⟩ := hrel
    have S := Lib.hid hS
    have HO := Lib.hid hown
    clear hS hown HS0 HOW HPC
    by_cases hy : 0 < y
    · have HST := Lib.hid (Fs.pieces_step x y (by omega))
      have hq1 : (x : Int) / 64 = ((x / 64 : Nat) : Int) := by omega
      have hq2 : (x : Int) % 64 = ((x % 64 : Nat) : Int) := by omega
      have hq3 : min (y : Int) (64 - ((x % 64 : Nat) : Int)) = ((min y (64 - x % 64) : Nat) : Int) := by omega
      have hm1 : 1 ≤ min y (64 - x % 64) := by omega
      have hm2 : min y (64 - x % 64) ≤ y := by omega
      have hx64 : x % 64 < 64 := Nat.mod_lt _ (by omega)
      generalize min y (64 - x % 64) = z at HST hq3 hm1 hm2
      generalize x % 64 = r at HST hq2 hq3 hx64
      generalize x / 64 = qq at HST hq1
      have S1 : Hid (Lo [] w [(wr.heap.size, pcL ⟨qq, r, z⟩)] ((wr.alloc (.cells (pcL ⟨qq, r, z⟩).toArray 110)).alloc (.cells (pcL ⟨qq, r, z⟩).toArray 110))) := Lib.hid ((S.out.alloc _ rfl (pcL ⟨qq, r, z⟩) _).skip _)
      have HNW : Hid (∀ j u, (pcL ⟨qq, r, z⟩)[j]? = some u → ((wr.alloc (.cells (pcL ⟨qq, r, z⟩).toArray 110)).alloc (.cells (pcL ⟨qq, r, z⟩).toArray 110)).cell? ((⟨wr.heap.size + 1, 0, none⟩ : Addr).add j) = some u) := Lib.hid (by
        have := cell_new (wr.alloc (.cells (pcL ⟨qq, r, z⟩).toArray 110)) (pcL ⟨qq, r, z⟩) 110
        simpa using this)
      have HO2 := Lib.hid ((HO.out.alloc (.cells (pcL ⟨qq, r, z⟩).toArray 110)).alloc (.cells (pcL ⟨qq, r, z⟩).toArray 110))
      have HSZ : Hid (w.heap.size ≤ ((wr.alloc (.cells (pcL ⟨qq, r, z⟩).toArray 110)).alloc (.cells (pcL ⟨qq, r, z⟩).toArray 110)).heap.size) := Lib.hid (by have := S.out.only.size; simp; omega)
      have HLT := Lib.hid (fun j hj => HO.out.lt j hj)
      obtain ⟨i0, hi0, hz0, hs0, hb0⟩ := info_parts info_pc
      have HI0 := Lib.hid hi0
      have HZ0 := Lib.hid hz0
      have HS0 := Lib.hid hs0
      have HB0 := Lib.hid hb0
      clear hi0 hz0 hs0 hb0
      go_wp2_with (at_builtin; go_must (refine wpList_append_own_at _ rfl (.tmp 20) (.tmp 22) 107 rfl w.heap.size 110 i0 _ 3 24 Tryz.underlying107 HI0.out HZ0.out HS0.out HB0.out rfl (by omega) _ k _ rfl HO2.out ⟨wr.heap.size + 1, 0, none⟩ 1 1 (pcL ⟨qq, r, z⟩) rfl rfl HNW.out (pcL_one _) (by unfold maxLen; omega) (by omega) HSZ.out ?_); intro v' w5 hown' hgrow hnil hloc; obtain ⟨A', c', rfl⟩ := owns_slice hown'; have S2 := Lib.hid (S1.out.grown hgrow (fun j hj => ⟨(HLT.out j hj).1, fun x hx => by rw [List.mem_singleton] at hx; subst hx; have := (HLT.out j hj).2; simp only; omega⟩)); have HO3 := Lib.hid hown'; clear hown' hgrow hnil hloc; have c0 := (S2.out.get 0 _ rfl).cell 0 _ rfl; have c1 := (S2.out.get 0 _ rfl).cell 1 _ rfl; have c2 := (S2.out.get 0 _ rfl).cell 2 _ rfl)
      clear hq1 hq2 hq3 S1 HNW HO2 HSZ HLT HI0 HZ0 HS0 HB0 S HO
      have hs1 : IntKind.i64.wrap ((x : Int) + (z : Int)) = (x : Int) + (z : Int) := IntWalk.i64_in _ (by omega)
      have hs2 : IntKind.i64.wrap ((y : Int) - (z : Int)) = (y : Int) - (z : Int) := IntWalk.i64_in _ (by omega)
      go_quiet (fail)
      clear hs1 hs2 c0 c1 c2
      go_wp2
      have HR1 : Hid (k + 1 = (done ++ [(⟨qq, r, z⟩ : Fs.Pc)]).length) := Lib.hid (by rw [HK.out]; simp)
      have HR2 : Hid ((done ++ [(⟨qq, r, z⟩ : Fs.Pc)]) ++ Fs.pieces (x + z) (y - z) = all) := Lib.hid (by rw [← HD.out, HST.out]; simp)
      have HR3 : Hid (w5.ownsRow w.heap.size 110 3 (.slice A' (k + 1) c') (k + 1) ((done ++ [(⟨qq, r, z⟩ : Fs.Pc)]).flatMap pcL)) := Lib.hid (by rw [List.flatMap_append]; simpa using HO3.out)
      have hn1 : (x : Int) + (z : Int) = ((x + z : Nat) : Int) := by omega
      have hn2 : (y : Int) - (z : Int) = ((y - z : Nat) : Int) := by omega
      go_roundw
      case rel => exact ⟨x + z, y - z, _, A', c', k + 1, by omega, by omega, by omega, by rw [hn1], by rw [hn2], rfl, HR1, HR2, HR3.out, (S2.out.cut 0).drewN _⟩
      case measure => simp [intOf]; omega
    · obtain rfl : y = 0 := by omega
      have HF : Hid (PcsGive all w (.returned (.slice A k c)) wr) := Lib.hid (by
        have e : all = done := by rw [← HD.out, Fs.pieces_zero, List.append_nil]
        rw [e]
        refine ⟨A, c, by rw [HK.out], owns_pcRow HO.out HK.out, fun b off hA => ?_, S.out.bel⟩
        subst hA
        exact (HO.out.lt b rfl).1)
      clear HO HK HD
      go_wp2_with fail
      go_ret
      exact HF.out
end

section
open Dk (zeros zeros_length)
open Go.RowKit
theorem infoB : (Tryz.prog.info? 174).map (·.size) = some 2 := by kernel_rfl
theorem info_byte : (Tryz.prog.info? 5).map (fun i => (i.size, i.bytes)) = some (1, 1) := by kernel_rfl
theorem zero_byte : (Tryz.prog.info? 5).map (fun i => i.zero) = some (some (.int .u8 0)) := by kernel_rfl
theorem copyCheck_used (b : Nat) (w : World) (h0 : w.cell? ⟨b, 0, none⟩ = some (.pointer (some ⟨b, 0, none⟩))) :
    Calls Tryz.prog 163 #[.pointer (some ⟨b, 0, none⟩)] w fun e w' => e = .returned (.tuple #[]) ∧ w = w' := by
  obtain ⟨j, hj, _⟩ := Option.map_eq_some_iff.1 infoB
  go_enter Tryz.func163, Tryz.ntmps163
  go_wp2
  rw [Lib.run_neq_ptr_same w _ Tryz.underlying172 hj]
  go_wp2
  go_end0
  exact ⟨rfl, rfl⟩
theorem copyCheck_fresh (b : Nat) (w : World) (h0 : w.cell? ⟨b, 0, none⟩ = some (.pointer none)) (hsh : w.shape? b = some (174, 2)) (hfz : w.frozen? ⟨b, 0, none⟩ = false) :
    Calls Tryz.prog 163 #[.pointer (some ⟨b, 0, none⟩)] w fun e w' => e = .returned (.tuple #[]) ∧ w.setCell ⟨b, 0, none⟩ (.pointer (some ⟨b, 0, none⟩)) = w' := by
  obtain ⟨j, hj, hjs⟩ := Option.map_eq_some_iff.1 infoB
  go_enter Tryz.func163, Tryz.ntmps163
  go_wp2
  rw [Lib.run_to_unsafe w ⟨b, 0, none⟩ Tryz.underlying172 Tryz.underlying225 hj (by rw [hjs]; decide) hsh (Nat.zero_lt_succ 1)]
  simp only [Result.andThen]
  rw [Oper.upon_value]
  go_wp2
  rw [run_callFunc_extern Tryz.func179 (by kernel_rfl) (by kernel_rfl) (by kernel_rfl) (e := Extern.AbiNoEscape.same) (by kernel_rfl)]
  rw [Lib.run_noEscape]
  simp only [Result.andThen]
  rw [Oper.upon_value]
  go_wp2
  rw [Lib.run_from_unsafe w ⟨b, 0, none⟩ Tryz.underlying225 Tryz.underlying172 hj hsh (by kernel_rfl)]
  simp only [Result.andThen]
  rw [Oper.upon_value]
  go_wp2
  go_end0
  exact ⟨rfl, rfl⟩
theorem string_nil (B b : Nat) (p : Value) (w : World) (hbk : w.heap[b]? = some (.cells #[p, .slice none 0 0] 174 (0, 0))) :
    Calls Tryz.prog 135 #[.pointer (some ⟨b, 0, none⟩)] w fun e w' => e = .returned (.string (strOf [])) ∧ Below B w w' := by
  have hUS : ∀ (W : World) (q : Option Addr), (Builtin.unsafeString_ #[203, 3] 9 #[.pointer q, .int .i64 0]).run Tryz.prog W = .ok (.string .empty) W := fun W q => Lib.run_unsafeString_none W _ _ _ q
  have c1 : w.drew.cell? ⟨b, 1, none⟩ = some (.slice none 0 0) := by
    have : w.drew.heap[b]? = _ := hbk
    rw [Lib.cell_of_heap this]; rfl
  have hSD : (Builtin.unsafeSliceData_ #[158] 203 #[.slice none 0 0]).run Tryz.prog w.drew = .ok (.pointer none) w.drew := rfl
  clear hbk
  go_enter Tryz.func135, Tryz.ntmps135
  go_wp2
  go_region
  all_goals (go_wp2; go_ret; exact ⟨rfl, Below.drew (Below.refl B w)⟩)
end

section
open Go.RowKit Go.Maps
open Dk (zeros zeros_length)
theorem strCells_byteVals (s : ByteArray) : Lib.strCells s = byteVals s.data.toList := by
  unfold Lib.strCells byteVals
  rfl
def Bld (B b : Nat) (p : Value) (l : List UInt8) (w : World) : Prop := ∃ v, w.heap[b]? = some (.cells #[p, v] 174 (0, 0)) ∧ w.ownsRow B 5 1 v l.length (byteVals l) ∧ (l = [] → v = .slice none 0 0)
theorem bld_new {w w' : World} {B : Nat} (hb : w'.heap[w.heap.size]? = (w.alloc (.cells #[.pointer none, .slice none 0 0] 174)).heap[w.heap.size]?) : Bld B w.heap.size (.pointer none) [] w' :=
  ⟨.slice none 0 0, by rw [hb]; exact heap_alloc_new w _, World.ownsRow_nil _ _ _ _, fun _ => rfl⟩
theorem Bld.step {B b : Nat} {p : Value} {l : List UInt8} {w w' : World} (h : Bld B b p l w) (hb : Below w.heap.size w w') : Bld B b p l w' := by
  obtain ⟨v, h1, h2, h3⟩ := h
  have hlt := (Array.getElem?_eq_some_iff.1 h1).1
  refine ⟨v, (hb.block b hlt).trans h1, ?_, h3⟩
  obtain ⟨q1, q2⟩ := h2
  refine ⟨q1, ?_⟩
  rcases q2 with q | ⟨g, cap, cur, e1, e2, e3, e4⟩
  · exact Or.inl q
  · exact Or.inr ⟨g, cap, cur, e1, e2, (hb.block g (Array.getElem?_eq_some_iff.1 e3).1).trans e3, e4⟩
theorem own_kept {w : World} {B b n : Nat} {e : TypeId} {v : Value} {xs : List Value} (h : w.ownsRow B e 1 v n xs) (hb : b < B) (j : Nat) (u : Value) : (w.setCell ⟨b, j, none⟩ u).ownsRow B e 1 v n xs :=
  h.kept (row := some b) ⟨rfl, rfl, rfl, by simp [World.setCell], fun k _ hk => Below.heap_setCell _ _ _ _ (fun e => hk (by simp [e]))⟩ (Or.inr (fun q => by have := (h.lt b q).1; omega))
theorem writeString_any (B b : Nat) (p : Value) (l : List UInt8) (s : ByteArray) (W0 w : World) (hW : W0.heap.size = B) (ho : Only [b] W0 w) (h : Bld B b p l w) (hp : p = .pointer none ∨ p = .pointer (some ⟨b, 0, none⟩)) (hbB : b < B) (hl : l.length + s.size ≤ 1000000) (hs : 0 < s.size) :
    Calls Tryz.prog 161 #[.pointer (some ⟨b, 0, none⟩), .string s] w fun e w' => e = .returned (.tuple #[.int .i64 (s.size : Int), .nilIface]) ∧ Bld B b (.pointer (some ⟨b, 0, none⟩)) (l ++ s.data.toList) w' ∧ Only [b] W0 w' := by
  obtain ⟨i, hi, hz⟩ := Option.map_eq_some_iff.1 info_byte
  have hzero : i.zero = some (.int .u8 0) := by
    have := zero_byte
    rw [hi] at this
    simpa using this
  have HSS : Hid (s.size = s.data.toList.length) := Lib.hid (by rw [Array.length_toList]; rfl)
  obtain ⟨v, hbk, hown, hnil⟩ := h
  have hlt : b < w.heap.size := (Array.getElem?_eq_some_iff.1 hbk).1
  have HC : Hid (∃ w1, (Calls Tryz.prog 163 #[.pointer (some ⟨b, 0, none⟩)] w fun e w' => e = .returned (.tuple #[]) ∧ w1 = w') ∧ w1.heap[b]? = some (.cells #[.pointer (some ⟨b, 0, none⟩), v] 174 (0, 0)) ∧ w1.ownsRow B 5 1 v l.length (byteVals l) ∧ Only [b] W0 w1) := Lib.hid (by
    have c0 : w.cell? ⟨b, 0, none⟩ = some p := by rw [Lib.cell_of_heap hbk]; rfl
    rcases hp with rfl | rfl
    · refine ⟨_, copyCheck_fresh b w c0 (by unfold World.shape?; rw [hbk]; rfl) (Lib.frozen_of_heap hbk 0), ?_, own_kept hown hbB _ _, ho.setCell (by simp) _⟩
      simp [World.setCell, Array.getElem?_modify, hbk]
    · exact ⟨w, copyCheck_used b w c0, hbk, hown, ho⟩)
  clear ho hown hbk hp
  obtain ⟨w1, HC1, HB1, HO1, HL1⟩ := HC.out
  have HC1 := Lib.hid HC1
  have HB1' := Lib.hid HB1
  have c1 : w1.cell? ⟨b, 1, none⟩ = some v := by rw [Lib.cell_of_heap HB1]; rfl
  have HO1' := Lib.hid HO1
  have HL1' := Lib.hid HL1
  have hsz1 := HL1.size
  have hb1 : b < w1.heap.size := by omega
  clear HC HB1 HO1 HL1
  go_enter Tryz.func161, Tryz.ntmps161
  go_wp2_with (first
    | (go_at_call 163; refine HC1.out.mono ?_; rintro e w' ⟨rfl, rfl⟩)
    | (at_builtin; go_must (refine Lib.wpList_append_own_string _ rfl (.tmp 12) (.tmp 13) 158 9 rfl B 5 i Tryz.underlying158 Tryz.underlying9 hi hzero (congrArg Prod.fst hz) (congrArg Prod.snd hz) v l.length (byteVals l) rfl HO1'.out s rfl (by unfold maxLen; omega) (by omega) (by omega) ?_)))
  intro v' w2 hown' hgrow hnil'
  rw [strCells_byteVals] at hown'
  have hbel : Only [b] W0 w2 := HL1'.out.grownL hgrow (fun j hj => by have := (HO1'.out.lt j hj).1; omega)
  have hb2 : w2.heap[b]? = some (.cells #[.pointer (some ⟨b, 0, none⟩), v] 174 (0, 0)) := (hgrow.block b hb1 (fun e => by have := (HO1'.out.lt b e.symm).1; omega)).trans HB1'.out
  have d0 : w2.cell? ⟨b, 0, none⟩ = some (.pointer (some ⟨b, 0, none⟩)) := by rw [Lib.cell_of_heap hb2]; rfl
  have d1 : w2.cell? ⟨b, 1, none⟩ = some v := by rw [Lib.cell_of_heap hb2]; rfl
  have f1 : w2.frozen? ⟨b, 1, none⟩ = false := Lib.frozen_of_heap hb2 1
  have HF : Hid (Bld B b (.pointer (some ⟨b, 0, none⟩)) (l ++ s.data.toList) (w2.setCell ⟨b, 1, none⟩ v')) := Lib.hid ⟨v', by simp [World.setCell, Array.getElem?_modify, hb2], by
    have e1 : (l ++ s.data.toList).length = l.length + s.size := by rw [List.length_append, ← HSS.out]
    have e2 : byteVals (l ++ s.data.toList) = byteVals l ++ byteVals s.data.toList := by unfold byteVals; rw [List.map_append]
    rw [e1, e2]
    exact own_kept hown' hbB _ _, fun e => by
      have := congrArg List.length e
      rw [List.length_append, ← HSS.out, List.length_nil] at this
      omega⟩
  have HL : Hid (Only [b] W0 (w2.setCell ⟨b, 1, none⟩ v')) := Lib.hid (hbel.setCell (by simp) _)
  obtain ⟨ao, n', cap, rfl⟩ : ∃ ao n' cap, v' = .slice ao n' cap := by
    rcases hown'.2 with ⟨hv, _⟩ | ⟨g, cap, cur, hv, _⟩
    · exact ⟨_, _, _, hv⟩
    · exact ⟨_, _, _, hv⟩
  clear hbel hown' hgrow hb2 hnil'
  go_wp2
  go_ret2
  exact ⟨rfl, HF.out, HL.out⟩
theorem bstring_any (B b : Nat) (p : Value) (l : List UInt8) (w : World) (h : Bld B b p l w) (hm : l.length ≤ 1000000) (hB : B ≤ w.heap.size) :
    Calls Tryz.prog 135 #[.pointer (some ⟨b, 0, none⟩)] w fun e w' => e = .returned (.string (strOf l)) ∧ Below B w w' := by
  obtain ⟨v, hbk, hown, hnil⟩ := h
  by_cases h0 : l = []
  · subst h0
    have hv := hnil rfl
    subst hv
    exact (string_nil w.heap.size b p w hbk).mono fun e w' ⟨h1, h2⟩ => ⟨h1, h2.mono hB⟩
  · have hl0 : l.length ≠ 0 := by simpa using h0
    obtain ⟨g, cap, cur, rfl, hbg, hg, hnc, hcm, hcs, htake⟩ : ∃ g cap cur, v = .slice (some ⟨g, 0, none⟩) l.length cap ∧ B ≤ g ∧ w.heap[g]? = some (.cells cur 5 (0, 0)) ∧ l.length ≤ cap ∧ cap ≤ maxLen ∧ cur.size = cap * 1 ∧ cur.toList.take (l.length * 1) = byteVals l := by
      rcases hown.2 with ⟨_, hz⟩ | ⟨g, cap, cur, hv, r⟩
      · exact absurd hz hl0
      · exact ⟨g, cap, cur, hv, r⟩
    have c1 : w.drew.cell? ⟨b, 1, none⟩ = some (.slice (some ⟨g, 0, none⟩) l.length cap) := by
      have : w.drew.heap[b]? = _ := hbk
      rw [Lib.cell_of_heap this]; rfl
    have hSD : (Builtin.unsafeSliceData_ #[158] 203 #[.slice (some ⟨g, 0, none⟩) l.length cap]).run Tryz.prog w.drew = .ok (.pointer (some ⟨g, 0, none⟩)) w.drew :=
      Lib.run_unsafeSliceData_row _ _ _ _ _ _ (by omega)
    have hUS : (Builtin.unsafeString_ #[203, 3] 9 #[.pointer (some ⟨g, 0, none⟩), .int .i64 l.length]).run Tryz.prog w.drew = .ok (.string (strOf l)) (w.drew.freeze ⟨g, 0, none⟩ l.length) := by
      refine Lib.run_unsafeString_row w.drew 203 3 9 5 Tryz.underlying203 cells8 g cur.size (by have hg' : w.drew.heap[g]? = some (.cells cur 5 (0, 0)) := hg; simp [World.shape?, hg']) l h0 (by omega) (by omega) ?_
      intro j x hx
      exact hown.cells (g := g) rfl j (.int .u8 x.toNat) (by simp [byteVals, hx])
    have HB : Hid (Below B w (w.drew.freeze ⟨g, 0, none⟩ l.length)) := Lib.hid (Lib.below_freeze (Below.drew (Below.refl B w)) (p := ⟨g, 0, none⟩) hbg _)
    have hk : l.length ≤ 9223372036854775807 := by omega
    generalize strOf l = s at hUS ⊢
    clear hown htake hcs hg hbk h0 hl0 hnil
    go_enter Tryz.func135, Tryz.ntmps135
    go_wp2
    go_region
    all_goals (go_wp2; go_ret; exact ⟨rfl, HB.out⟩)
end

section
open Go.RowKit Go.Maps
open Dk (zeros zeros_length)
open Ii (Ino)
theorem pieces_any (off n : Int) (w : World) (h : n ≤ 0 ∨ (0 ≤ off ∧ off ≤ 5000000000 ∧ n ≤ 67840)) : Calls Tryz.prog 64 #[.int .i64 off, .int .i64 n] w (PcsGive (Fs.pieces off.toNat n.toNat) w) := by
  by_cases c : n ≤ 0
  · have e : n.toNat = 0 := by omega
    rw [e, Fs.pieces_zero]
    refine (pieces_none off n w c).mono ?_
    rintro e w' ⟨rfl, rfl⟩
    exact ⟨none, 0, rfl, ⟨fun h => absurd h (by simp)⟩, (fun b off h => by cases h), Below.refl _ _⟩
  · obtain ⟨h1, h2, h3⟩ := h.resolve_left c
    have := pieces_some off.toNat n.toNat w (by omega) (by omega)
    rw [Int.toNat_of_nonneg h1, Int.toNat_of_nonneg (by omega)] at this
    exact this
namespace Fs
def psum : List Pc → Nat
  | [] => 0
  | c :: cs => c.size + psum cs
theorem pieces_spec : ∀ (n off : Nat), psum (pieces off n) = n ∧ ∀ c ∈ pieces off n, 1 ≤ c.size ∧ c.at1 + c.size ≤ 64 := by
  intro n
  induction n using Nat.strongRecOn with
  | ind n ih =>
    intro off
    by_cases h : n = 0
    · subst h; exact ⟨rfl, fun c hc => by cases hc⟩
    · rw [pieces_step off n h]
      have h64 : off % 64 < 64 := Nat.mod_lt _ (by omega)
      obtain ⟨h1, h2⟩ := ih (n - min n (64 - off % 64)) (by omega) (off + min n (64 - off % 64))
      refine ⟨?_, fun c hc => ?_⟩
      · rw [psum, h1]; simp only; omega
      · rcases List.mem_cons.1 hc with rfl | hc
        · simp only; omega
        · exact h2 c hc
theorem psum_drop (cs : List Pc) (k : Nat) (c : Pc) (h : cs[k]? = some c) : psum (cs.drop k) = c.size + psum (cs.drop (k + 1)) := by
  obtain ⟨h1, h2⟩ := List.getElem?_eq_some_iff.1 h
  rw [List.drop_eq_getElem_cons h1, h2]; rfl
end Fs
theorem text_len {p : List UInt8} {a n : Nat} (hp : p.length = 64) (h : a + n ≤ 64) : (Pg.textN p (a : Int) (n : Int)).length = n := by
  unfold Pg.textN
  rw [if_pos (Pg.ins_mk (by omega) (by omega) (by omega))]
  simp
  omega
theorem pow256 (k : Nat) (h : k ≤ 4) : (256 : Int) ^ k ≤ 4294967296 := by
  have : k = 0 ∨ k = 1 ∨ k = 2 ∨ k = 3 ∨ k = 4 := by omega
  rcases this with rfl | rfl | rfl | rfl | rfl <;> decide
theorem ino_size (V : Fs.View) (i : Int) : 0 ≤ (Fs.inoAt V i).s ∧ (Fs.inoAt V i).s < 4294967296 := by
  unfold Fs.inoAt
  split
  · exact ⟨Int.le_refl _, by decide⟩
  · unfold Ii.getI
    simp only
    unfold Pg.getN
    split
    · have h := Pg.numOf_bd ((List.drop (Fs.halfAt i + 8).toNat (V (Fs.tbl i))).take 4)
      have hl : ((List.drop (Fs.halfAt i + 8).toNat (V (Fs.tbl i))).take 4).length ≤ 4 := by simp; omega
      exact ⟨h.1, Int.lt_of_lt_of_le h.2 (pow256 _ hl)⟩
    · exact ⟨Int.le_refl _, by decide⟩
def readE (acc : List UInt8) : Except Int (List UInt8) → Except Int (List UInt8)
  | .ok t => .ok (acc ++ t)
  | .error e => .error e
theorem err_inj {α : Type} {e e' : Int} (h : (Except.error e : Except Int α) = .error e') : e = e' := by cases h; rfl
theorem ok_err {α : Type} {a : α} {e : Int} (h : (Except.ok a : Except Int α) = .error e) : False := by cases h
theorem readT_err {t1 : List UInt8} {r : Except Int (List UInt8)} {e : Int} (h : Fs.readT t1 r = .error e) : r = .error e := by
  cases r with
  | error e' => exact h
  | ok t => exact absurd h (by unfold Fs.readT; intro q; exact ok_err q)
theorem readG_err {n I : Int} {x : Ino} {V : Fs.View} (cs : List Fs.Pc) : ∀ {e : Int}, Fs.readG n I x V cs = .error e → e = 5 := by
  induction cs with
  | nil =>
    intro e h
    rw [Fs.readG_nil] at h
    exact (ok_err h).elim
  | cons c cs ih =>
    intro e h
    cases hd : Fs.pageF n I x c.idx V with
    | error er =>
      rw [Fs.readG_bad hd] at h
      rw [← err_inj h]
      exact page_err hd
    | ok p =>
      rw [Fs.readG_ok hd] at h
      exact ih (readT_err h)
theorem strOf_nil : (⟨#[]⟩ : ByteArray) = strOf [] := rfl
theorem bread_no {w : World} {b : Blk} {s : Sto} {n I : Int} (hst : StoreAt w b s) (v : Vs s n I) (i off cnt : Int) (h : Fs.takenF I i (nv s) = .error 22) : Calls Tryz.prog 131 #[baseV b.s n I, .int .i64 i, .int .i64 off, .int .i64 cnt] w fun e w' => e = .returned (.tuple #[.string ⟨#[]⟩, .int .i64 22]) ∧ Below w.heap.size w w' := by
  have S := Lib.hid (base_box w b.s n I)
  have HT : Hid (∀ W l, Lo [] w l W → Calls Tryz.prog 110 #[baseV b.s n I, .int .i64 i] W fun e w' => e = .returned (.tuple #[inoV Ii.zero, .int .i64 22]) ∧ Below W.heap.size W w') := Lib.hid (fun W l hl => btaken_no (hl.store hst) v i h)
  clear hst v h
  unfold baseV at HT ⊢
  go_enter Tryz.func131, Tryz.ntmps131
  go_wp2_with (first
    | (with_reducible refine wpList_load_base (S.out.get 0 _ rfl).base rfl (.tmp 4) rfl rfl ?_)
    | (go_at_call 110; refine (HT.out _ _ S.out).mono ?_; rintro e w1 ⟨rfl, hb⟩; replace S := Lib.hid (S.out.below hb); clear hb)
    | ((with_reducible refine wpList_store_newrow (vs := inoL Ii.zero) inoT ?_ (inoL_one _) rfl (.tmp 10) (.tmp 21) rfl rfl ?_ ?_ ?_); (exact rfl); (exact rfl); (exact rfl); intro W4 hP hB2 hz2; replace S := Lib.hid (S.out.made hP hB2 hz2); clear hP hB2 hz2))
  go_ret2
  exact ⟨rfl, S.out.bel⟩
theorem bread_out {w : World} {b : Blk} {s : Sto} {n I : Int} (hst : StoreAt w b s) (v : Vs s n I) (i off cnt : Int) {x : Ino} (h : Fs.takenF I i (nv s) = .ok x) (ho : off < 0 ∨ cnt < 0 ∨ 67840 < cnt) : Calls Tryz.prog 131 #[baseV b.s n I, .int .i64 i, .int .i64 off, .int .i64 cnt] w fun e w' => e = .returned (.tuple #[.string ⟨#[]⟩, .int .i64 22]) ∧ Below w.heap.size w w' := by
  have S := Lib.hid (base_box w b.s n I)
  have HT : Hid (∀ W l, Lo [] w l W → Calls Tryz.prog 110 #[baseV b.s n I, .int .i64 i] W fun e w' => e = .returned (.tuple #[inoV x, .int .i64 0]) ∧ Below W.heap.size W w') := Lib.hid (fun W l hl => btaken_yes (hl.store hst) v i h)
  clear hst v h
  unfold baseV at HT ⊢
  by_cases h1 : off < 0
  · clear ho
    go_enter Tryz.func131, Tryz.ntmps131
    go_wp2_with (first
      | (with_reducible refine wpList_load_base (S.out.get 0 _ rfl).base rfl (.tmp 4) rfl rfl ?_)
      | (go_at_call 110; refine (HT.out _ _ S.out).mono ?_; rintro e w1 ⟨rfl, hb⟩; replace S := Lib.hid (S.out.below hb); clear hb)
      | ((with_reducible refine wpList_store_newrow (vs := inoL x) inoT ?_ (inoL_one _) rfl (.tmp 10) (.tmp 21) rfl rfl ?_ ?_ ?_); (exact rfl); (exact rfl); (exact rfl); intro W4 hP hB2 hz2; replace S := Lib.hid (S.out.made hP hB2 hz2); clear hP hB2 hz2))
    go_ret2
    exact ⟨rfl, S.out.bel⟩
  · by_cases h2 : cnt < 0
    · clear ho
      go_enter Tryz.func131, Tryz.ntmps131
      go_wp2_with (first
        | (with_reducible refine wpList_load_base (S.out.get 0 _ rfl).base rfl (.tmp 4) rfl rfl ?_)
        | (go_at_call 110; refine (HT.out _ _ S.out).mono ?_; rintro e w1 ⟨rfl, hb⟩; replace S := Lib.hid (S.out.below hb); clear hb)
        | ((with_reducible refine wpList_store_newrow (vs := inoL x) inoT ?_ (inoL_one _) rfl (.tmp 10) (.tmp 21) rfl rfl ?_ ?_ ?_); (exact rfl); (exact rfl); (exact rfl); intro W4 hP hB2 hz2; replace S := Lib.hid (S.out.made hP hB2 hz2); clear hP hB2 hz2))
      go_ret2
      exact ⟨rfl, S.out.bel⟩
    · have h3 : 67840 < cnt := by omega
      clear ho
      go_enter Tryz.func131, Tryz.ntmps131
      go_wp2_with (first
        | (with_reducible refine wpList_load_base (S.out.get 0 _ rfl).base rfl (.tmp 4) rfl rfl ?_)
        | (go_at_call 110; refine (HT.out _ _ S.out).mono ?_; rintro e w1 ⟨rfl, hb⟩; replace S := Lib.hid (S.out.below hb); clear hb)
        | ((with_reducible refine wpList_store_newrow (vs := inoL x) inoT ?_ (inoL_one _) rfl (.tmp 10) (.tmp 21) rfl rfl ?_ ?_ ?_); (exact rfl); (exact rfl); (exact rfl); intro W4 hP hB2 hz2; replace S := Lib.hid (S.out.made hP hB2 hz2); clear hP hB2 hz2))
      go_ret2
      exact ⟨rfl, S.out.bel⟩
theorem bread_yes {w : World} {b : Blk} {s : Sto} {n I : Int} (hst : StoreAt w b s) (v : Vs s n I) (i off cnt : Int) {x : Ino} (h : Fs.takenF I i (nv s) = .ok x) (h1 : 0 ≤ off) (h1b : off ≤ 9223372036854775807) (h2 : 0 ≤ cnt) (h3 : cnt ≤ 67840) : Calls Tryz.prog 131 #[baseV b.s n I, .int .i64 i, .int .i64 off, .int .i64 cnt] w fun e w' =>
    e = .returned (exV (fun l => .string (strOf l)) (.string ⟨#[]⟩) (Fs.readG n I x (nv s) (Fs.pieces off.toNat (min cnt (x.s - off)).toNat))) ∧ Below w.heap.size w w' := by
  have S := Lib.hid (base_box w b.s n I)
  have hsz : 0 ≤ x.s ∧ x.s < 4294967296 := by
    obtain ⟨_, _, e, _⟩ := taken_yes h
    rw [e]; exact ino_size _ _
  have HT : Hid (∀ W l, Lo [] w l W → Calls Tryz.prog 110 #[baseV b.s n I, .int .i64 i] W fun e w' => e = .returned (.tuple #[inoV x, .int .i64 0]) ∧ Below W.heap.size W w') := Lib.hid (fun W l hl => btaken_yes (hl.store hst) v i h)
  have HPC := Lib.hid (fun W => pieces_any off (min cnt (x.s - off)) W (by omega))
  have HPG : Hid (∀ W0 Bb W l k, Below w.heap.size w W0 → w.heap.size ≤ Bb → Lo [Bb] W0 l W → Calls Tryz.prog 160 #[baseV b.s n I, inoV x, .int .i64 k] W fun e w' => e = .returned (exV pageV (pageV zeros) (Fs.pageF n I x k (nv s))) ∧ Below W.heap.size W w') := Lib.hid (fun W0 Bb W l k hb hB hl => by
    have h0 : StoreAt W0 b s := hst.below hb
    refine bpage_any (h0.only hl.only (fun q hq => ?_)) v x k
    have := hst.lt q hq
    simp only [List.mem_singleton]
    omega)
  have HLN := Lib.hid (fun (k : Int) (p : List UInt8) (hd : Fs.pageF n I x k (nv s) = .ok p) => page_len v hd)
  obtain ⟨hps1, hps2⟩ := Fs.pieces_spec (min cnt (x.s - off)).toNat off.toNat
  have hps3 : Fs.psum (Fs.pieces off.toNat (min cnt (x.s - off)).toNat) ≤ 67840 := by rw [hps1]; omega
  have HPS := Lib.hid hps2
  have HPM := Lib.hid hps3
  clear hst v h hps1 hps2 hps3
  have hmn : min cnt (x.s - off) = min cnt (x.s - off) := rfl
  clear hmn
  generalize Fs.pieces off.toNat (min cnt (x.s - off)).toNat = cs at HPC HPS HPM ⊢
  generalize hR0 : Fs.readG n I x (nv s) cs = R
  have HR0 : Hid (readE [] (Fs.readG n I x (nv s) (cs.drop 0)) = R) := Lib.hid (by
    rw [List.drop_zero, hR0]
    cases R <;> rfl)
  have HRE := Lib.hid (fun e (h : R = .error e) => readG_err cs (hR0.trans h))
  clear hR0
  unfold baseV at HT ⊢
  unfold PcsGive at HPC
  go_enter Tryz.func131, Tryz.ntmps131
  go_wp2_with (first
    | (with_reducible refine wpList_load_base (S.out.get 0 _ rfl).base rfl (.tmp 4) rfl rfl ?_)
    | (go_at_call 110; refine (HT.out _ _ S.out).mono ?_; rintro e w1 ⟨rfl, hb⟩; replace S := Lib.hid (S.out.below hb); clear hb)
    | ((with_reducible refine wpList_store_newrow (vs := inoL x) inoT ?_ (inoL_one _) rfl (.tmp 10) (.tmp 21) rfl rfl ?_ ?_ ?_); (exact rfl); (exact rfl); (exact rfl); intro W4 hP hB2 hz2; replace S := Lib.hid (S.out.made hP hB2 hz2); clear hP hB2 hz2; have c4 : ∀ o, (W4.alloc o).cell? ⟨w1.heap.size, 4, none⟩ = some (.int .i64 x.s) := fun o => ((S.out.skip o).get 1 _ rfl).cell 4 _ rfl))
  refine (HPC.out _).mono ?_
  rintro e w5 ⟨A, c, rfl, hrow, hA, hb⟩
  have HS5 := Lib.hid ((S.out.skip (.cells #[.pointer none, .slice none 0 0] 174)).below hb)
  have HBL : Hid (Bld w5.heap.size W4.heap.size (.pointer none) [] w5) := Lib.hid (bld_new (hb.block W4.heap.size (by simp)))
  have hBw : Hid (w.heap.size ≤ W4.heap.size ∧ W4.heap.size < w5.heap.size) := Lib.hid ⟨S.out.only.size, by have := hb.size; simp at this; omega⟩
  have HIB : Hid (w.heap.size < W4.heap.size ∧ w1.heap.size < W4.heap.size) := Lib.hid ⟨S.out.lt 0 _ rfl, S.out.lt 1 _ rfl⟩
  have HPR : Hid (PcRow w5 A cs ∧ ∀ b off, A = some ⟨b, off, none⟩ → W4.heap.size < b) := Lib.hid ⟨hrow, fun b off h => by have := hA b off h; simp at this; omega⟩
  clear hrow hA hb S c4 HPC HT
  generalize W4.heap.size = Bb at HBL hBw HIB HPR ⊢
  generalize w1.heap.size = Ib at HS5 HIB ⊢
  have HB : Hid (∀ W l, Lo [Bb] w5 l W → RowAt W w.heap.size (baseL b.s n I) ∧ RowAt W Ib (inoL x) ∧ PcRow W A cs) := Lib.hid (fun W l hl => by
    have g := HIB.out
    refine ⟨(HS5.out.get 0 _ rfl).block (hl.only.block _ (HS5.out.lt 0 _ rfl) ?_), (HS5.out.get 1 _ rfl).block (hl.only.block _ (HS5.out.lt 1 _ rfl) ?_), HPR.out.1.only hl.only (fun b off h => ?_)⟩
    · simp only [List.mem_singleton]; omega
    · simp only [List.mem_singleton]; omega
    · have := HPR.out.2 b off h
      simp only [List.mem_singleton]; omega)
  have HDD : Hid (∀ W l k, Lo [Bb] w5 l W → Calls Tryz.prog 160 #[baseV b.s n I, inoV x, .int .i64 k] W fun e w' => e = .returned (exV pageV (pageV zeros) (Fs.pageF n I x k (nv s))) ∧ Below W.heap.size W w') := Lib.hid (fun W l k hl => HPG.out w5 Bb W l k HS5.out.bel hBw.out.1 hl)
  have T := Lib.hid (Lo.start (L := [Bb]) w5 (fun k hk => by rw [List.mem_singleton] at hk; subst hk; exact hBw.out.2))
  have HW5 := Lib.hid HS5.out.bel
  have HBB := Lib.hid hBw.out.2
  have HBW := Lib.hid hBw.out.1
  clear HS5 hBw HIB HPR HPG
  obtain ⟨len, hlen⟩ : ∃ len, cs.length = len := ⟨_, rfl⟩
  have HLE := Lib.hid hlen
  rw [hlen]
  clear hlen
  have hl9 : len ≤ 67840 := by
    have h1 := HPM.out
    have h2 : ∀ ds : List Fs.Pc, (∀ c ∈ ds, 1 ≤ c.size) → ds.length ≤ Fs.psum ds := by
      intro ds
      induction ds with
      | nil => intro _; exact Nat.le_refl _
      | cons d ds ih =>
        intro h
        have := ih (fun c hc => h c (by simp [hc]))
        have := h d (by simp)
        rw [List.length_cons, Fs.psum]; omega
    have := h2 cs (fun c hc => (HPS.out c hc).1)
    have := HLE.out
    omega
  have HST : Hid (∃ (l : List UInt8) (p : Value), Bld w5.heap.size Bb p l w5 ∧ (p = .pointer none ∨ p = .pointer (some ⟨Bb, 0, none⟩)) ∧ readE l (Fs.readG n I x (nv s) (cs.drop 0)) = R ∧ l.length + Fs.psum (cs.drop 0) ≤ 67840) := Lib.hid ⟨[], _, HBL.out, Or.inl rfl, HR0.out, by rw [List.drop_zero]; simpa using HPM.out⟩
  clear HBL HR0 HPM
  go_wp2_with fail
  go_loopw [45] (fun i wr => ∃ (k : Nat), k ≤ len ∧ i = .int .i64 k ∧ Lo [Bb] w5 [] wr ∧ Hid (∃ (l : List UInt8) (p : Value), Bld w5.heap.size Bb p l wr ∧ (p = .pointer none ∨ p = .pointer (some ⟨Bb, 0, none⟩)) ∧ readE l (Fs.readG n I x (nv s) (cs.drop k)) = R ∧ l.length + Fs.psum (cs.drop k) ≤ 67840)) (fun i _ => len - (intOf i).toNat)
  case atStart => exact ⟨0, Nat.zero_le _, rfl, T.out, HST⟩
  case round =>
    obtain ⟨k, hk, rfl, hT, HQ⟩ := hrel
    replace T := Lib.hid hT
    clear hT HST
    by_cases hlt : k < len
    · obtain ⟨pc, hpc⟩ : ∃ pc, cs[k]? = some pc := ⟨_, List.getElem?_eq_getElem (by rw [HLE.out]; exact hlt)⟩
      obtain ⟨hz1, hz2⟩ := HPS.out pc (List.mem_of_getElem? hpc)
      obtain ⟨pb, poff, rfl, hpb, hpr⟩ := (HB.out wr [] T.out).2.2.cells (by rw [HLE.out]; omega)
      have HPI := Lib.hid (hpr k pc hpc)
      have HDR : Hid (cs.drop k = pc :: cs.drop (k + 1)) := Lib.hid (by
        obtain ⟨q1, q2⟩ := List.getElem?_eq_some_iff.1 hpc
        rw [List.drop_eq_getElem_cons q1, q2])
      have HPD := Lib.hid (Fs.psum_drop cs k pc hpc)
      clear hpc hpr hpb
      have HDK := Lib.hid (fun (W : World) (l : List (Nat × List Value)) (hl : Lo [Bb] w5 l W) => HDD.out W l (pc.idx : Int) hl)
      cases hd : Fs.pageF n I x (pc.idx : Int) (nv s) with
      | error er =>
        have HRR : Hid (R = .error er) := Lib.hid (by
          obtain ⟨l, p, _, _, q, _⟩ := HQ.out
          rw [HDR.out, Fs.readG_bad hd] at q
          exact q.symm)
        have he5 := page_err hd
        subst he5
        rw [hd] at HDK
        simp only [exV] at HDK
        clear hd HQ
        go_wp2_with (first
          | (with_reducible refine wpList_load_mid rfl 110 (.tmp 47) rfl pb (poff + k * 3) rfl (pcL pc) _ HPI.out Tryz.underlying110 rfl (by kernel_rfl) ?_)
          | ((with_reducible refine wpList_store_newrow (vs := pcL pc) pcT ?_ (pcL_one _) rfl (.tmp 14) (.tmp 48) rfl rfl ?_ ?_ ?_); (exact rfl); (exact rfl); (exact rfl); intro W6 hP hB2 hz2; replace T := Lib.hid (T.out.made hP hB2 hz2); clear hP hB2 hz2 HPI; have p0 := (T.out.get 0 _ rfl).cell 0 _ rfl)
          | (with_reducible refine wpList_load_base (HB.out _ _ T.out).1.base rfl (.tmp 4) rfl rfl ?_)
          | (with_reducible refine wpList_load_rw inoT (HB.out _ _ T.out).2.1 rfl rfl (.tmp 10) rfl rfl ?_)
          | (go_at_call 160; refine (HDK.out _ _ T.out).mono ?_; rintro e w6 ⟨rfl, hb⟩; replace T := Lib.hid (T.out.below hb); clear hb p0)
          | ((with_reducible refine wpList_store_new rfl (.tmp 15) (.tmp 55) rfl rfl ?_ ?_ zeros_length ?_); (exact rfl); (exact rfl); intro W2 hP hB2 hz2; replace T := Lib.hid (T.out.made hP.rowAt hB2 hz2); clear hP hB2 hz2))
        go_ret2
        rw [HRR.out]
        exact ⟨rfl, Only.toBelowOld HW5.out T.out.only HW5.out.size (fun k hk => by rw [List.mem_singleton] at hk; subst hk; exact HBW.out)⟩
      | ok p =>
        have HP := Lib.hid (HLN.out _ p hd)
        obtain ⟨l, pp, hbl, hpp, hrr, hps⟩ := HQ.out
        have HBD := Lib.hid hbl
        have HRR : Hid (readE (l ++ Pg.textN p (pc.at1 : Int) (pc.size : Int)) (Fs.readG n I x (nv s) (cs.drop (k + 1))) = R) := Lib.hid (by
          rw [HDR.out, Fs.readG_ok hd] at hrr
          rw [← hrr]
          cases Fs.readG n I x (nv s) (cs.drop (k + 1)) with
          | ok t => show Except.ok _ = Except.ok _; rw [List.append_assoc]
          | error e => rfl)
        have hps2 : l.length + (pc.size + Fs.psum (cs.drop (k + 1))) ≤ 67840 := by rw [← HPD.out]; exact hps
        have HTL := Lib.hid (text_len HP.out hz2)
        have HTX : Hid (∀ W, Calls Tryz.prog 162 #[pageV p, .int .i64 (pc.at1 : Int), .int .i64 (pc.size : Int)] W fun e w' => e = .returned (.string (strOf (Pg.textN p (pc.at1 : Int) (pc.size : Int)))) ∧ Below W.heap.size W w') := Lib.hid (fun W => text_any p _ _ W HP.out (by omega) (by omega))
        rw [hd] at HDK
        simp only [exV] at HDK
        have HPPl := Lib.hid hpp
        clear hd HQ hbl hpp hrr hps
        generalize Pg.textN p (pc.at1 : Int) (pc.size : Int) = tx at HRR HTL HTX
        have HTS : Hid ((strOf tx).size = pc.size) := Lib.hid (by rw [strOf_size, HTL.out])
        have HWS : Hid (∀ W, Only [Bb] w5 W → Bld w5.heap.size Bb pp l W → Calls Tryz.prog 161 #[.pointer (some ⟨Bb, 0, none⟩), .string (strOf tx)] W fun e w' => e = .returned (.tuple #[.int .i64 ((strOf tx).size : Int), .nilIface]) ∧ Bld w5.heap.size Bb (.pointer (some ⟨Bb, 0, none⟩)) (l ++ tx) w' ∧ Only [Bb] w5 w') := Lib.hid (fun W ho hbd => writeString_any w5.heap.size Bb pp l (strOf tx) w5 W rfl ho hbd HPPl.out HBB.out (by rw [HTS.out]; omega) (by rw [HTS.out]; omega))
        go_wp2_with (first
          | (with_reducible refine wpList_load_mid rfl 110 (.tmp 47) rfl pb (poff + k * 3) rfl (pcL pc) _ HPI.out Tryz.underlying110 rfl (by kernel_rfl) ?_)
          | ((with_reducible refine wpList_store_newrow (vs := pcL pc) pcT ?_ (pcL_one _) rfl (.tmp 14) (.tmp 48) rfl rfl ?_ ?_ ?_); (exact rfl); (exact rfl); (exact rfl); intro W6 hP hB2 hz2; replace T := Lib.hid (T.out.made hP hB2 hz2); replace HBD := Lib.hid (HBD.out.step hB2); clear hP hB2 hz2 HPI; have p0 := (T.out.get 0 _ rfl).cell 0 _ rfl)
          | (with_reducible refine wpList_load_base (HB.out _ _ T.out).1.base rfl (.tmp 4) rfl rfl ?_)
          | (with_reducible refine wpList_load_rw inoT (HB.out _ _ T.out).2.1 rfl rfl (.tmp 10) rfl rfl ?_)
          | (go_at_call 160; refine (HDK.out _ _ T.out).mono ?_; rintro e w6 ⟨rfl, hb⟩; replace T := Lib.hid (T.out.below hb); replace HBD := Lib.hid (HBD.out.step hb); clear hb p0)
          | ((with_reducible refine wpList_store_new rfl (.tmp 15) (.tmp 55) rfl rfl ?_ ?_ HP.out ?_); (exact rfl); (exact rfl); intro W2 hP hB2 hz2; replace T := Lib.hid (T.out.made hP.rowAt hB2 hz2); replace HBD := Lib.hid (HBD.out.step hB2); clear hP hB2 hz2; have p1 := (T.out.get 0 _ rfl).cell 1 _ rfl; have p2 := (T.out.get 0 _ rfl).cell 2 _ rfl)
          | (with_reducible refine wpList_load_page (T.out.page 1 rfl HP.out) rfl (.tmp 15) rfl rfl ?_)
          | (go_at_call 162; (with_reducible refine (HTX.out _).mono ?_); rintro e w7 ⟨rfl, hb⟩; replace T := Lib.hid (T.out.below hb); replace HBD := Lib.hid (HBD.out.step hb); clear hb p1 p2)
          | (go_at_call 161; refine (HWS.out _ T.out.only HBD.out).mono ?_; rintro e w8 ⟨rfl, hb1, hb2⟩; have T9 := Lib.hid (Lo.none hb2 T.out.low); have HBD9 := Lib.hid hb1; clear hb1 hb2))
        have HQ9 : Hid (∃ (l : List UInt8) (p : Value), Bld w5.heap.size Bb p l w8 ∧ (p = .pointer none ∨ p = .pointer (some ⟨Bb, 0, none⟩)) ∧ readE l (Fs.readG n I x (nv s) (cs.drop (k + 1))) = R ∧ l.length + Fs.psum (cs.drop (k + 1)) ≤ 67840) := Lib.hid ⟨l ++ tx, _, HBD9.out, Or.inr rfl, HRR.out, by rw [List.length_append, HTL.out]; omega⟩
        clear HBD HBD9 T HRR HTL HTS HWS HTX
        go_roundw
        case rel => exact ⟨k + 1, by omega, by go_num, T9.out, HQ9⟩
        case measure => simp [intOf]; omega
    · obtain rfl : k = len := by omega
      obtain ⟨l, pp, hbl, _, hrr, hps⟩ := HQ.out
      have HBD := Lib.hid hbl
      have HRR : Hid (R = .ok l) := Lib.hid (by
        rw [← hrr, List.drop_of_length_le (by rw [HLE.out]; omega), Fs.readG_nil]
        show Except.ok _ = Except.ok _
        rw [List.append_nil])
      have HSTR := Lib.hid (bstring_any w5.heap.size Bb pp l wr HBD.out (by omega) T.out.only.size)
      clear hbl hrr hps HBD HQ
      go_wp2_with (go_at_call 135; (with_reducible refine HSTR.out.mono ?_); rintro e w8 ⟨rfl, hb⟩; have HB8 := Lib.hid hb; clear hb)
      go_ret2
      rw [HRR.out]
      exact ⟨rfl, (Only.toBelowOld HW5.out T.out.only HW5.out.size (fun k hk => by rw [List.mem_singleton] at hk; subst hk; exact HBW.out)).trans (HB8.out.mono HW5.out.size)⟩
theorem bread_any {w : World} {b : Blk} {s : Sto} {n I : Int} (hst : StoreAt w b s) (v : Vs s n I) (i off cnt : Int) (h1 : off ≤ 9223372036854775807) : Calls Tryz.prog 131 #[baseV b.s n I, .int .i64 i, .int .i64 off, .int .i64 cnt] w fun e w' =>
    e = .returned (exV (fun l => .string (strOf l)) (.string ⟨#[]⟩) (Fs.readF n I i off cnt (nv s))) ∧ Below w.heap.size w w' := by
  unfold Fs.readF
  rcases taken_or I i (nv s) with h | ⟨x, h⟩
  · rw [h]; exact bread_no hst v i off cnt h
  · rw [h]
    simp only
    by_cases c : off < 0 ∨ cnt < 0 ∨ 67840 < cnt
    · rw [if_pos c]; exact bread_out hst v i off cnt h c
    · rw [if_neg c]; exact bread_yes hst v i off cnt h (by omega) h1 (by omega) (by omega)
end
end Go.Proofs.YtmpfcgjjejlhdaaGreat
