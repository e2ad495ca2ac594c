/- Texts of the proof: Fbase, Fway, Fpcs, Pbuild, Fstr, Fread, Fst, Fput, Fmust. -/
import Derived.Test.YtncmihikpcdgoaaGreatMai
import Derived.Test.YtncmihikpcdgoaaGreatMaf
import Derived.RegionTactic
import Derived.IntWalk
import Derived.Test.YtncmihikpcdgoaaGreatMag
import Derived.Maps.AppendAt
import Derived.Test.YtncmihikpcdgoaaGreatMah
import Derived.Lib.Builder
import Derived.Lib.UnsafeStr
import Derived.Lib.MakeNoZero
import Derived.Lib.Walk
import Derived.Laws.Externs
import Derived.Laws.AppendOwn
import Derived.Lib.AppendStr
namespace Go.Proofs.YtncmihikpcdgoaaGreat
open Go.RowKit Go.Maps
open Dk (zeros zeros_length)
open Ii (Ino)
theorem base_box (w : World) (st : Nat) (n I : Int) : Lo [] w [(w.heap.size, baseL st n I)] (w.alloc (.cells #[.pointer (some ⟨st, 0, none⟩), .int .i64 n, .int .i64 I] 77)) :=
  (Lo.start w (by simp)).alloc _ rfl (baseL st n I) _
theorem tbl_ok {s : Sto} {n I i : Int} (h : Vs s n I) (h1 : 1 ≤ i) (h2 : i ≤ I) : okP n (43 + (i - 1) / 2) ∧ (43 + (i - 1) / 2).toNat = Fs.tbl i := by
  obtain ⟨b1, b2, b3, b4, b5, b6⟩ := h.bd
  unfold Pl.dataN at b4
  exact ⟨⟨by omega, by omega, by omega⟩, rfl⟩
set_option maxRecDepth 100000 in
set_option maxHeartbeats 1000000 in
theorem binode_no {w : World} {b : Blk} {s : Sto} {n I : Int} (v : Vs s n I) (i : Int) (h0 : i < 1 ∨ I < i) : Calls Tryz.prog 69 #[baseV b.s n I, .int .i64 i] w fun e w' => e = .returned (.tuple #[inoV Ii.zero, .int .i64 22]) ∧ Below w.heap.size w w' := by
  have S := Lib.hid ((base_box w b.s n I).alloc (w.heap.size + 1) (by simp) (inoL Ii.zero) 31)
  have HP : Hid (∀ w, Calls Tryz.prog 86 #[.agg #[.int .i64 n, .int .i64 I], .int .i64 i] w fun e w' => e = .returned (.tuple #[.int .i64 0, .int .i64 0]) ∧ Below w.heap.size w w') := Lib.hid (fun w => place_no n I i w v.pl h0)
  clear v h0
  unfold baseV
  go_enter Tryz.func69, Tryz.ntmps69
  go_wp2_with (first
    | (go_at_call 86; (with_reducible refine (HP.out _).mono ?_); rintro e w1 ⟨rfl, hb⟩; replace S := Lib.hid (S.out.below hb); clear hb)
    | ((with_reducible refine wpList_store_rw (vs := inoL Ii.zero) inoT (S.out.get 1 _ rfl) ?_ ?_ (inoL_one _) rfl (.tmp 4) (.tmp 20) rfl ?_ ?_ ?_); (exact rfl); (exact rfl); (exact rfl); (exact rfl)))
  have S2 := Lib.hid (S.out.put 1 _ rfl (inoL Ii.zero) rfl)
  exact bodyPost_ret (results_row2 inoT _ 4 5 rfl _ (S2.out.get 1 _ rfl) rfl rfl rfl) rfl ⟨rfl, S2.out.bel⟩
set_option maxRecDepth 100000 in
set_option maxHeartbeats 2000000 in
theorem binode_yes {w : World} {b : Blk} {s : Sto} {n I : Int} (hst : StoreAt w b s) (v : Vs s n I) (i : Int) (h1 : 1 ≤ i) (h2 : i ≤ I) : Calls Tryz.prog 69 #[baseV b.s n I, .int .i64 i] w fun e w' => e = .returned (.tuple #[inoV (Fs.inoAt (nv s) i), .int .i64 0]) ∧ Below w.heap.size w w' := by
  have S := Lib.hid ((base_box w b.s n I).alloc (w.heap.size + 1) (by simp) (inoL Ii.zero) 31)
  have HP : Hid (∀ w, Calls Tryz.prog 86 #[.agg #[.int .i64 n, .int .i64 I], .int .i64 i] w fun e w' => e = .returned (.tuple #[.int .i64 (43 + (i - 1) / 2), .int .i64 ((i - 1) % 2)]) ∧ Below w.heap.size w w') := Lib.hid (fun w => place_yes n I i w v.pl h1 h2)
  obtain ⟨k1, k2⟩ := tbl_ok v h1 h2
  obtain ⟨r1, r2, r3⟩ := v.read k1
  rw [k2] at r1 r3
  have HR : Hid (∀ W l, Lo [] w l W → Calls Tryz.prog 76 #[.pointer (some ⟨b.s, 0, none⟩), .int .i64 (43 + (i - 1) / 2)] W fun e w' => e = .returned (.tuple #[pageV (nv s (Fs.tbl i)), .int .i64 0]) ∧ Below W.heap.size W w') := Lib.hid (fun W l hl => by
    have := sread_any (hl.store hst) (43 + (i - 1) / 2)
    rw [r1, r2] at this
    exact this)
  have HL := Lib.hid r3
  have HG : Hid (∀ w, Calls Tryz.prog 109 #[pageV (nv s (Fs.tbl i)), .int .i64 ((i - 1) % 2)] w fun e w' => e = .returned (inoV (Ii.getI (nv s (Fs.tbl i)) (Fs.halfAt i))) ∧ Below w.heap.size w w') := Lib.hid (fun w => iget_any _ i w r3)
  unfold Fs.inoAt
  have hat : ((43 + (i - 1) / 2 : Int) == 0) = false := by rw [beq_eq_false_iff_ne]; omega
  clear v hst h1 h2 k1 k2 r1 r2 r3
  generalize (43 + (i - 1) / 2 : Int) = at1 at HP HR hat
  generalize (i - 1) % 2 = hf at HP HG
  generalize nv s (Fs.tbl i) = p at HR HL HG ⊢
  generalize Ii.getI p (Fs.halfAt i) = x at HG ⊢
  unfold baseV
  by_cases hk : x.k = 0
  · rw [if_pos hk]
    have gk : (x.k == 0) = true := by rw [hk]; rfl
    clear hk
    go_enter Tryz.func69, Tryz.ntmps69
    go_wp2_with (first
      | (go_at_call 86; (with_reducible refine (HP.out _).mono ?_); rintro e w1 ⟨rfl, hb⟩; replace S := Lib.hid (S.out.below hb); have c0 := (S.out.get 0 _ rfl).cell 0 _ rfl; clear hb)
      | (go_at_call 76; (with_reducible refine (HR.out _ _ S.out).mono ?_); rintro e w2 ⟨rfl, hb⟩; clear c0; replace S := Lib.hid (S.out.below hb); clear hb)
      | ((with_reducible refine wpList_store_new rfl (.tmp 8) (.tmp 26) rfl rfl ?_ ?_ HL.out ?_); (exact rfl); (exact rfl); intro W2 hP hB2 hz2; replace S := Lib.hid (S.out.made hP.rowAt hB2 hz2); clear hP hB2 hz2)
      | (with_reducible refine wpList_load_page ((S.out.get 2 _ rfl).page HL.out) rfl (.tmp 8) rfl rfl ?_)
      | (go_at_call 109; (with_reducible refine (HG.out _).mono ?_); rintro e w3 ⟨rfl, hb⟩; replace S := Lib.hid (S.out.below hb); clear hb)
      | ((with_reducible refine wpList_store_newrow (vs := inoL x) inoT ?_ (inoL_one _) rfl (.tmp 10) (.tmp 34) rfl rfl ?_ ?_ ?_); (exact rfl); (exact rfl); (exact rfl); intro W4 hP hB2 hz2; replace S := Lib.hid (S.out.made hP hB2 hz2); clear hP hB2 hz2; have i0 := (S.out.get 3 _ rfl).cell 0 _ rfl)
      | ((with_reducible refine wpList_store_rw (vs := inoL Ii.zero) inoT (S.out.get 1 _ rfl) ?_ ?_ (inoL_one _) rfl (.tmp 4) (.tmp 38) rfl ?_ ?_ ?_); (exact rfl); (exact rfl); (exact rfl); (exact rfl)))
    have S2 := Lib.hid (S.out.put 1 _ rfl (inoL Ii.zero) rfl)
    exact bodyPost_ret (results_row2 inoT _ 4 5 rfl _ (S2.out.get 1 _ rfl) rfl rfl rfl) rfl ⟨rfl, S2.out.bel⟩
  · rw [if_neg hk]
    have gk : (x.k == 0) = false := by rw [beq_eq_false_iff_ne]; exact hk
    clear hk
    go_enter Tryz.func69, Tryz.ntmps69
    go_wp2_with (first
      | (go_at_call 86; (with_reducible refine (HP.out _).mono ?_); rintro e w1 ⟨rfl, hb⟩; replace S := Lib.hid (S.out.below hb); have c0 := (S.out.get 0 _ rfl).cell 0 _ rfl; clear hb)
      | (go_at_call 76; (with_reducible refine (HR.out _ _ S.out).mono ?_); rintro e w2 ⟨rfl, hb⟩; clear c0; replace S := Lib.hid (S.out.below hb); clear hb)
      | ((with_reducible refine wpList_store_new rfl (.tmp 8) (.tmp 26) rfl rfl ?_ ?_ HL.out ?_); (exact rfl); (exact rfl); intro W2 hP hB2 hz2; replace S := Lib.hid (S.out.made hP.rowAt hB2 hz2); clear hP hB2 hz2)
      | (with_reducible refine wpList_load_page ((S.out.get 2 _ rfl).page HL.out) rfl (.tmp 8) rfl rfl ?_)
      | (go_at_call 109; (with_reducible refine (HG.out _).mono ?_); rintro e w3 ⟨rfl, hb⟩; replace S := Lib.hid (S.out.below hb); clear hb)
      | ((with_reducible refine wpList_store_newrow (vs := inoL x) inoT ?_ (inoL_one _) rfl (.tmp 10) (.tmp 34) rfl rfl ?_ ?_ ?_); (exact rfl); (exact rfl); (exact rfl); intro W4 hP hB2 hz2; replace S := Lib.hid (S.out.made hP hB2 hz2); clear hP hB2 hz2; have i0 := (S.out.get 3 _ rfl).cell 0 _ rfl)
      | (with_reducible refine wpList_load_rw inoT (S.out.get 3 _ rfl) rfl rfl (.tmp 10) rfl rfl ?_)
      | ((with_reducible refine wpList_store_rw (vs := inoL x) inoT (S.out.get 1 _ rfl) ?_ ?_ (inoL_one _) rfl (.tmp 4) (.tmp 39) rfl ?_ ?_ ?_); (exact rfl); (exact rfl); (exact rfl); (exact rfl)))
    have S2 := Lib.hid (S.out.put 1 _ rfl (inoL x) rfl)
    exact bodyPost_ret (results_row2 inoT _ 4 5 rfl _ (S2.out.get 1 _ rfl) rfl rfl rfl) rfl ⟨rfl, S2.out.bel⟩
theorem taken_no {I i : Int} {V : Fs.View} (h : Fs.takenF I i V = .error 22) : (i < 1 ∨ I < i) ∨ (1 ≤ i ∧ i ≤ I ∧ (Fs.inoAt V i).k = 0) := by
  unfold Fs.takenF at h
  by_cases c : 1 ≤ i ∧ i ≤ I
  · rw [if_pos c] at h
    right
    refine ⟨c.1, c.2, ?_⟩
    by_cases d : (Fs.inoAt V i).k = 0
    · exact d
    · rw [if_neg d] at h; cases h
  · left; omega
theorem taken_yes {I i : Int} {V : Fs.View} {x : Ino} (h : Fs.takenF I i V = .ok x) : 1 ≤ i ∧ i ≤ I ∧ x = Fs.inoAt V i ∧ x.k ≠ 0 := by
  unfold Fs.takenF at h
  by_cases c : 1 ≤ i ∧ i ≤ I
  · rw [if_pos c] at h
    by_cases d : (Fs.inoAt V i).k = 0
    · rw [if_pos d] at h; cases h
    · rw [if_neg d] at h
      injection h with h
      subst h
      exact ⟨c.1, c.2, rfl, d⟩
  · rw [if_neg c] at h; cases h
theorem taken_or (I i : Int) (V : Fs.View) : Fs.takenF I i V = .error 22 ∨ ∃ x, Fs.takenF I i V = .ok x := by
  unfold Fs.takenF
  split
  · split
    · exact Or.inl rfl
    · exact Or.inr ⟨_, rfl⟩
  · exact Or.inl rfl
theorem base_boxV (w : World) (st : Nat) (n I : Int) : Lo [] w [(w.heap.size, baseL st n I), (w.heap.size + 1, inoL Ii.zero)] ((w.alloc (.cells #[.pointer (some ⟨st, 0, none⟩), .int .i64 n, .int .i64 I] 77)).alloc (.cells (inoL Ii.zero).toArray 31)) :=
  (base_box w st n I).alloc (w.heap.size + 1) (by simp) (inoL Ii.zero) 31
set_option maxRecDepth 100000 in
set_option maxHeartbeats 2000000 in
theorem btaken_no {w : World} {b : Blk} {s : Sto} {n I : Int} (hst : StoreAt w b s) (v : Vs s n I) (i : Int) (h : Fs.takenF I i (nv s) = .error 22) : Calls Tryz.prog 91 #[baseV b.s n I, .int .i64 i] w fun e w' => e = .returned (.tuple #[inoV Ii.zero, .int .i64 22]) ∧ Below w.heap.size w w' := by
  have S := Lib.hid (base_boxV w b.s n I)
  have HI : ∃ E : Int, Hid (∀ W l, Lo [] w l W → Calls Tryz.prog 69 #[baseV b.s n I, .int .i64 i] W fun e w' => e = .returned (.tuple #[inoV Ii.zero, .int .i64 E]) ∧ Below W.heap.size W w') ∧ (E = 0 ∨ E = 22) := by
    rcases taken_no h with c | ⟨c1, c2, c3⟩
    · exact ⟨22, Lib.hid (fun W l _ => binode_no v i c), Or.inr rfl⟩
    · refine ⟨0, Lib.hid (fun W l hl => ?_), Or.inl rfl⟩
      have := binode_yes (hl.store hst) v i c1 c2
      have e : Fs.inoAt (nv s) i = Ii.zero := by
        unfold Fs.inoAt at c3 ⊢
        split
        · rfl
        · rename_i q; rw [if_neg q] at c3; exact absurd c3 q
      rw [e] at this
      exact this
  obtain ⟨E, HI, hE⟩ := HI
  clear v hst h
  rcases hE with rfl | rfl
  all_goals
    unfold baseV at HI ⊢
    go_enter Tryz.func91, Tryz.ntmps91
    go_wp2_with (first
      | (with_reducible refine wpList_load_base (S.out.get 0 _ rfl).base rfl (.tmp 2) rfl rfl ?_)
      | (go_at_call 69; refine (HI.out _ _ S.out).mono ?_; rintro e w1 ⟨rfl, hb⟩; replace S := Lib.hid (S.out.below hb); clear hb)
      | ((with_reducible refine wpList_store_newrow (vs := inoL Ii.zero) inoT ?_ (inoL_one _) rfl (.tmp 6) (.tmp 12) rfl rfl ?_ ?_ ?_); (exact rfl); (exact rfl); (exact rfl); intro W4 hP hB2 hz2; replace S := Lib.hid (S.out.made hP hB2 hz2); clear hP hB2 hz2; have i0 := (S.out.get 2 _ rfl).cell 0 _ rfl)
      | (with_reducible refine wpList_load_rw inoT (S.out.get 2 _ rfl) rfl rfl (.tmp 6) rfl rfl ?_)
      | ((with_reducible refine wpList_store_rw (vs := inoL Ii.zero) inoT (S.out.get 1 _ rfl) ?_ ?_ (inoL_one _) rfl (.tmp 4) (.tmp 21) rfl ?_ ?_ ?_); (exact rfl); (exact rfl); (exact rfl); (exact rfl))
      | ((with_reducible refine wpList_store_rw (vs := inoL Ii.zero) inoT (S.out.get 1 _ rfl) ?_ ?_ (inoL_one _) rfl (.tmp 4) (.tmp 22) rfl ?_ ?_ ?_); (exact rfl); (exact rfl); (exact rfl); (exact rfl)))
    have S2 := Lib.hid (S.out.put 1 _ rfl (inoL Ii.zero) rfl)
    exact bodyPost_ret (results_row2 inoT _ 4 5 rfl _ (S2.out.get 1 _ rfl) rfl rfl rfl) rfl ⟨rfl, S2.out.bel⟩
set_option maxRecDepth 100000 in
set_option maxHeartbeats 2000000 in
theorem btaken_yes {w : World} {b : Blk} {s : Sto} {n I : Int} (hst : StoreAt w b s) (v : Vs s n I) (i : Int) {x : Ino} (h : Fs.takenF I i (nv s) = .ok x) : Calls Tryz.prog 91 #[baseV b.s n I, .int .i64 i] w fun e w' => e = .returned (.tuple #[inoV x, .int .i64 0]) ∧ Below w.heap.size w w' := by
  have S := Lib.hid (base_boxV w b.s n I)
  obtain ⟨c1, c2, c3, c4⟩ := taken_yes h
  have HI : Hid (∀ W l, Lo [] w l W → Calls Tryz.prog 69 #[baseV b.s n I, .int .i64 i] W fun e w' => e = .returned (.tuple #[inoV x, .int .i64 0]) ∧ Below W.heap.size W w') := Lib.hid (fun W l hl => by
    have := binode_yes (hl.store hst) v i c1 c2
    rw [← c3] at this
    exact this)
  have gk : (x.k == 0) = false := by rw [beq_eq_false_iff_ne]; exact c4
  clear v hst h c1 c2 c3 c4
  unfold baseV at HI ⊢
  go_enter Tryz.func91, Tryz.ntmps91
  go_wp2_with (first
    | (with_reducible refine wpList_load_base (S.out.get 0 _ rfl).base rfl (.tmp 2) rfl rfl ?_)
    | (go_at_call 69; refine (HI.out _ _ S.out).mono ?_; rintro e w1 ⟨rfl, hb⟩; replace S := Lib.hid (S.out.below hb); clear hb)
    | ((with_reducible refine wpList_store_newrow (vs := inoL x) inoT ?_ (inoL_one _) rfl (.tmp 6) (.tmp 12) rfl rfl ?_ ?_ ?_); (exact rfl); (exact rfl); (exact rfl); intro W4 hP hB2 hz2; replace S := Lib.hid (S.out.made hP hB2 hz2); clear hP hB2 hz2; have i0 := (S.out.get 2 _ rfl).cell 0 _ rfl)
    | (with_reducible refine wpList_load_rw inoT (S.out.get 2 _ rfl) rfl rfl (.tmp 6) rfl rfl ?_)
    | ((with_reducible refine wpList_store_rw (vs := inoL x) inoT (S.out.get 1 _ rfl) ?_ ?_ (inoL_one _) rfl (.tmp 4) (.tmp 22) rfl ?_ ?_ ?_); (exact rfl); (exact rfl); (exact rfl); (exact rfl)))
  have S2 := Lib.hid (S.out.put 1 _ rfl (inoL x) rfl)
  exact bodyPost_ret (results_row2 inoT _ 4 5 rfl _ (S2.out.get 1 _ rfl) rfl rfl rfl) rfl ⟨rfl, S2.out.bel⟩
theorem base_boxP (w : World) (st : Nat) (n I : Int) : Lo [] w [(w.heap.size, baseL st n I), (w.heap.size + 1, byteVals zeros)] ((w.alloc (.cells #[.pointer (some ⟨st, 0, none⟩), .int .i64 n, .int .i64 I] 77)).alloc (.cells zeroCells 68)) :=
  (base_box w st n I).alloc (w.heap.size + 1) (by simp) (byteVals zeros) 68
theorem Lo.page {L : List Nat} {w0 w : World} {l : List (Nat × List Value)} (h : Lo L w0 l w) (k : Nat) {B : Nat} {p : List UInt8} (hx : l[k]? = some (B, byteVals p)) (hp : p.length = 64) : PageAt w B p := (h.get k _ hx).page hp
theorem Lo.putP {L : List Nat} {w0 w : World} {l : List (Nat × List Value)} (h : Lo L w0 l w) (k : Nat) {B : Nat} {p : List UInt8} (hx : l[k]? = some (B, byteVals p)) (hp : p.length = 64) (q : List UInt8) (hq : q.length = 64) : Lo L w0 (l.set k (B, byteVals q)) (w.setCells B 0 (byteVals q)) :=
  h.put k (B, byteVals p) hx _ (by simp only [byteVals_length]; omega)
set_option maxRecDepth 100000 in
set_option maxHeartbeats 2000000 in
theorem bdata_zero {w : World} (b : Blk) (n I : Int) : Calls Tryz.prog 98 #[baseV b.s n I, .int .i64 0] w fun e w' => e = .returned (.tuple #[pageV zeros, .int .i64 0]) ∧ Below w.heap.size w w' := by
  have S0 := Lib.hid (base_box w b.s n I)
  unfold baseV
  go_enter Tryz.func98, Tryz.ntmps98
  go_wp2_with ((with_reducible refine wpList_store_new rfl (.tmp 4) (.tmp 8) rfl ?_ ?_ ?_ zeros_length ?_); (simp [Act.eval]); (exact rfl); (exact rfl); intro W2 hP hB2 hz2; have S := Lib.hid (S0.out.madeB (w.heap.size + 1) (by simp) hP.rowAt hB2 hz2); clear hP hB2 hz2)
  exact bodyPost_ret (results_page_int _ 4 5 rfl _ (S.out.page 1 rfl zeros_length) rfl) rfl ⟨rfl, S.out.bel⟩
set_option maxRecDepth 100000 in
set_option maxHeartbeats 2000000 in
theorem bdata_no {w : World} {b : Blk} {s : Sto} {n I : Int} (v : Vs s n I) (m : Int) (h0 : m ≠ 0) (h1 : ¬ Fs.isData n I m) : Calls Tryz.prog 98 #[baseV b.s n I, .int .i64 m] w fun e w' => e = .returned (.tuple #[pageV zeros, .int .i64 5]) ∧ Below w.heap.size w w' := by
  have S0 := Lib.hid (base_boxP w b.s n I)
  have HB : Hid (∀ w, Calls Tryz.prog 129 #[.agg #[.int .i64 n, .int .i64 I], .int .i64 m] w fun e w' => e = .returned (.int .i64 (-1)) ∧ Below w.heap.size w w') := Lib.hid (fun w => bit_no n I m w v.pl (by unfold Fs.isData at h1; omega))
  have g0 : (m == 0) = false := by rw [beq_eq_false_iff_ne]; exact h0
  clear v h0 h1
  unfold baseV
  go_enter Tryz.func98, Tryz.ntmps98
  go_wp2_with fail
  rw [← zeroCells_def]
  generalize hw : (w.alloc _).alloc _ = w1
  have S : Hid (Lo [] w [(w.heap.size, baseL b.s n I), (w.heap.size + 1, byteVals zeros)] w1) := Lib.hid (by rw [← hw]; exact S0.out)
  clear hw S0
  go_wp2_with (first
    | (go_at_call 129; (with_reducible refine (HB.out _).mono ?_); rintro e w2 ⟨rfl, hb⟩; replace S := Lib.hid (S.out.below hb); clear hb)
    | ((with_reducible refine wpList_store_page (S.out.page 1 rfl zeros_length) zeros_length rfl (.tmp 4) (.tmp 14) rfl rfl ?_ ?_); (exact rfl)))
  have S2 := Lib.hid (S.out.putP 1 rfl zeros_length zeros zeros_length)
  exact bodyPost_ret (results_page_int _ 4 5 rfl _ (S2.out.page 1 rfl zeros_length) rfl) rfl ⟨rfl, S2.out.bel⟩
theorem data_ok {s : Sto} {n I m : Int} (v : Vs s n I) (h : Fs.isData n I m) : okP n m ∧ m ≠ 0 := by
  obtain ⟨b1, b2, b3, b4, b5, b6⟩ := v.bd
  unfold Fs.isData at h
  exact ⟨⟨by omega, by omega, by omega⟩, by omega⟩
set_option maxRecDepth 100000 in
set_option maxHeartbeats 2000000 in
theorem bdata_yes {w : World} {b : Blk} {s : Sto} {n I : Int} (hst : StoreAt w b s) (v : Vs s n I) (m : Int) (h1 : Fs.isData n I m) : Calls Tryz.prog 98 #[baseV b.s n I, .int .i64 m] w fun e w' => e = .returned (.tuple #[pageV (nv s m.toNat), .int .i64 0]) ∧ Below w.heap.size w w' := by
  have S0 := Lib.hid (base_boxP w b.s n I)
  obtain ⟨k1, k2⟩ := data_ok v h1
  obtain ⟨r1, r2, r3⟩ := v.read k1
  have HB : Hid (∀ w, Calls Tryz.prog 129 #[.agg #[.int .i64 n, .int .i64 I], .int .i64 m] w fun e w' => e = .returned (.int .i64 (m - Pl.dataN I)) ∧ Below w.heap.size w w') := Lib.hid (fun w => bit_yes n I m w v.pl h1.1 h1.2)
  have HR : Hid (∀ W l, Lo [] w l W → Calls Tryz.prog 76 #[.pointer (some ⟨b.s, 0, none⟩), .int .i64 m] W fun e w' => e = .returned (.tuple #[pageV (nv s m.toNat), .int .i64 0]) ∧ Below W.heap.size W w') := Lib.hid (fun W l hl => by
    have := sread_any (hl.store hst) m
    rw [r1, r2] at this
    exact this)
  have HL := Lib.hid r3
  have g0 : (m == 0) = false := by rw [beq_eq_false_iff_ne]; exact k2
  have gb : 0 ≤ m - Pl.dataN I := by have := h1.1; omega
  clear v h1 k1 k2 r1 r2 r3 hst
  generalize nv s m.toNat = p at HR HL ⊢
  generalize m - Pl.dataN I = x at HB gb
  unfold baseV
  go_enter Tryz.func98, Tryz.ntmps98
  go_wp2_with fail
  rw [← zeroCells_def]
  generalize hw : (w.alloc _).alloc _ = w1
  have S : Hid (Lo [] w [(w.heap.size, baseL b.s n I), (w.heap.size + 1, byteVals zeros)] w1) := Lib.hid (by rw [← hw]; exact S0.out)
  clear hw S0
  go_wp2_with (first
    | (go_at_call 129; (with_reducible refine (HB.out _).mono ?_); rintro e w2 ⟨rfl, hb⟩; replace S := Lib.hid (S.out.below hb); clear hb; have c0 := (S.out.get 0 _ rfl).cell 0 _ rfl)
    | (go_at_call 76; (with_reducible refine (HR.out _ _ S.out).mono ?_); rintro e w2 ⟨rfl, hb⟩; clear c0; replace S := Lib.hid (S.out.below hb); clear hb)
    | ((with_reducible refine wpList_store_page (S.out.page 1 rfl zeros_length) HL.out rfl (.tmp 4) (.tmp 19) rfl rfl ?_ ?_); (exact rfl)))
  have S2 := Lib.hid (S.out.putP 1 rfl zeros_length p HL.out)
  exact bodyPost_ret (results_page_int _ 4 5 rfl _ (S2.out.page 1 rfl HL.out) rfl) rfl ⟨rfl, S2.out.bel⟩
theorem data_or (n I m : Int) (V : Fs.View) : (m = 0 ∧ Fs.dataF n I m V = .ok zeros) ∨ (m ≠ 0 ∧ Fs.isData n I m ∧ Fs.dataF n I m V = .ok (V m.toNat)) ∨ (m ≠ 0 ∧ ¬ Fs.isData n I m ∧ Fs.dataF n I m V = .error 5) := by
  unfold Fs.dataF
  by_cases c : m = 0
  · left; exact ⟨c, by rw [if_pos c]⟩
  · by_cases d : Fs.isData n I m
    · right; left; exact ⟨c, d, by rw [if_neg c, if_pos d]⟩
    · right; right; exact ⟨c, d, by rw [if_neg c, if_neg d]⟩
theorem data_len {s : Sto} {n I m : Int} {p : List UInt8} (v : Vs s n I) (h : Fs.dataF n I m (nv s) = .ok p) : p.length = 64 := by
  rcases data_or n I m (nv s) with ⟨_, e⟩ | ⟨_, d, e⟩ | ⟨_, _, e⟩
  · rw [e] at h; injection h with h; subst h; exact zeros_length
  · rw [e] at h; injection h with h; subst h; exact (v.read (data_ok v d).1).2.2
  · rw [e] at h; cases h
theorem data_err {n I m e : Int} {V : Fs.View} (h : Fs.dataF n I m V = .error e) : e = 5 := by
  rcases data_or n I m V with ⟨_, q⟩ | ⟨_, d, q⟩ | ⟨_, _, q⟩
  · rw [q] at h; cases h
  · rw [q] at h; cases h
  · rw [q] at h; injection h with h; exact h.symm
theorem bdata_any {w : World} {b : Blk} {s : Sto} {n I : Int} (hst : StoreAt w b s) (v : Vs s n I) (m : Int) : Calls Tryz.prog 98 #[baseV b.s n I, .int .i64 m] w fun e w' => e = .returned (exV pageV (pageV zeros) (Fs.dataF n I m (nv s))) ∧ Below w.heap.size w w' := by
  rcases data_or n I m (nv s) with ⟨h, e⟩ | ⟨h, d, e⟩ | ⟨h, d, e⟩
  · subst h; rw [e]; exact bdata_zero b n I
  · rw [e]; exact bdata_yes hst v m d
  · rw [e]; exact bdata_no v m h d
end Go.Proofs.YtncmihikpcdgoaaGreat

namespace Go.Proofs.YtncmihikpcdgoaaGreat
open Go.RowKit Go.Maps
open Dk (zeros zeros_length)
open Ii (Ino)
/-- where in an inode the first number of a way stands -/
def offN (i : Int) : Nat := if Sp.dep i = 0 then 5 + (Sp.inn i).toNat else if Sp.dep i = 1 then 9 else 10
def WayYes (X : Nat) (i : Int) (w : World) (e : Ending) (w' : World) : Prop := ∃ A c, e = .returned (.tuple #[.pointer (some ⟨X, offN i, none⟩), .slice A (Fs.placesN i).length c]) ∧ IntRow w' A (Fs.placesN i).length (Fs.placesN i) ∧ Below w.heap.size w w' ∧ ∀ b o, A = some ⟨b, o, none⟩ → w.heap.size ≤ b
def WayNo (w : World) (e : Ending) (w' : World) : Prop := ∃ F, e = .returned (.tuple #[.pointer (some ⟨F, 0, none⟩), .slice none 0 0]) ∧ w'.cell? ⟨F, 0, none⟩ = some (.int .i64 0) ∧ w.heap.size ≤ F ∧ F < w'.heap.size ∧ Below w.heap.size w w'
theorem intRow_nil (w : World) : IntRow w none 0 [] := ⟨rfl, by unfold maxLen; omega, fun h => absurd h (by omega)⟩
set_option maxRecDepth 100000 in
set_option maxHeartbeats 2000000 in
theorem way_no (X : Nat) (i : Int) (w : World) (h : Sp.okB i = false) : Calls Tryz.prog 93 #[.pointer (some ⟨X, 0, none⟩), .int .i64 i] w (WayNo w) := by
  have HW : Hid (∀ w, Calls Tryz.prog 131 #[.int .i64 i] w fun e w' => e = .returned (.tuple #[wayV (Sp.dep i) (Sp.out i) (Sp.inn i), .bool false]) ∧ Below w.heap.size w w') := Lib.hid (fun w => by
    have := where_any i w
    unfold WhereGives at this
    rw [h] at this
    exact this)
  have S := Lib.hid (Lo.start (L := []) w (by simp))
  generalize Sp.dep i = d at HW
  generalize Sp.out i = o at HW
  generalize Sp.inn i = k at HW
  clear h
  go_enter Tryz.func93, Tryz.ntmps93
  go_wp2_with (first
    | (go_at_call 131; (with_reducible refine (HW.out _).mono ?_); rintro e w2 ⟨rfl, hb⟩; replace S := Lib.hid (S.out.below hb); clear hb)
    | ((with_reducible refine wpList_store_newrow (vs := wayL d o k) wayT ?_ (wayL_one _ _ _) rfl (.tmp 6) (.tmp 11) rfl rfl ?_ ?_ ?_); (exact rfl); (exact rfl); (exact rfl); intro W4 hP hB2 hz2; replace S := Lib.hid (S.out.made hP hB2 hz2); clear hP hB2 hz2))
  go_ret2
  exact ⟨W4.heap.size, rfl, by simp, S.out.only.size, by simp, (S.out.skip _).bel⟩
theorem intRow_new (w : World) (zs : List Int) (t : TypeId) (hl : zs.length ≤ 1000) : IntRow ((w.alloc (.cells (intVals zs).toArray t)).drew) (some ⟨w.heap.size, 0, none⟩) zs.length zs where
  len := rfl
  small := by unfold maxLen; omega
  cells := fun _ => ⟨w.heap.size, 0, rfl, by simp, fun i x hx => by
    rw [Nat.zero_add, World.cell?_drew, World.cell?_alloc_mark]
    unfold intVals
    simp [hx]⟩
set_option maxRecDepth 100000 in
set_option maxHeartbeats 2000000 in
theorem way_0 (X : Nat) (i : Int) (w : World) (h0 : 0 ≤ i) (h1 : i < 4) : Calls Tryz.prog 93 #[.pointer (some ⟨X, 0, none⟩), .int .i64 i] w (WayYes X i w) := by
  obtain ⟨p1, p2, p3, p4⟩ := Sp.page0 h0 h1
  have HW : Hid (∀ w, Calls Tryz.prog 131 #[.int .i64 i] w fun e w' => e = .returned (.tuple #[wayV 0 0 i, .bool true]) ∧ Below w.heap.size w w') := Lib.hid (fun w => by
    have := where_any i w
    unfold WhereGives at this
    rw [p1, p2, p3, p4] at this
    exact this)
  have HE : Hid (∀ e w', (e = .returned (.tuple #[.pointer (some ⟨X, 5 + i.toNat, none⟩), .slice none 0 0]) ∧ Below w.heap.size w w') → WayYes X i w e w') := Lib.hid (fun e w' ⟨h1, h2⟩ => by
    have e1 : Fs.placesN i = [] := by unfold Fs.placesN; rw [p1, if_pos rfl, p2, if_pos rfl]
    have e2 : offN i = 5 + i.toNat := by unfold offN; rw [p2, if_pos rfl, p4]
    unfold WayYes
    rw [e1, e2]
    exact ⟨none, 0, h1, intRow_nil _, h2, fun b o h => by cases h⟩)
  have S := Lib.hid (Lo.start (L := []) w (by simp))
  obtain ⟨k, rfl⟩ := Int.eq_ofNat_of_zero_le h0
  have hk : k < 4 := by omega
  rw [Int.toNat_natCast] at HE
  clear p1 p2 p3 p4
  go_enter Tryz.func93, Tryz.ntmps93
  go_wp2_with (first
    | (go_at_call 131; (with_reducible refine (HW.out _).mono ?_); rintro e w2 ⟨rfl, hb⟩; replace S := Lib.hid (S.out.below hb); clear hb)
    | ((with_reducible refine wpList_store_newrow (vs := wayL 0 0 (k : Int)) wayT ?_ (wayL_one _ _ _) rfl (.tmp 6) (.tmp 11) rfl rfl ?_ ?_ ?_); (exact rfl); (exact rfl); (exact rfl); intro W4 hP hB2 hz2; replace S := Lib.hid (S.out.made hP hB2 hz2); clear hP hB2 hz2; have c0 := (S.out.get 0 _ rfl).cell 0 _ rfl; have c1 := (S.out.get 0 _ rfl).cell 1 _ rfl; have c2 := (S.out.get 0 _ rfl).cell 2 _ rfl))
  go_quiet (fail)
  go_wp2
  go_ret2
  exact HE.out _ _ ⟨rfl, (S.out.drewN _).bel⟩
set_option maxRecDepth 100000 in
set_option maxHeartbeats 2000000 in
theorem way_1 (X : Nat) (i : Int) (w : World) (h0 : 4 ≤ i) (h1 : i < 36) : Calls Tryz.prog 93 #[.pointer (some ⟨X, 0, none⟩), .int .i64 i] w (WayYes X i w) := by
  obtain ⟨p1, p2, p3, p4⟩ := Sp.page1 h0 h1
  have HW : Hid (∀ w, Calls Tryz.prog 131 #[.int .i64 i] w fun e w' => e = .returned (.tuple #[wayV 1 0 (i - 4), .bool true]) ∧ Below w.heap.size w w') := Lib.hid (fun w => by
    have := where_any i w
    unfold WhereGives at this
    rw [p1, p2, p3, p4] at this
    exact this)
  have HE : Hid (∀ e w', (∃ A c, e = .returned (.tuple #[.pointer (some ⟨X, 9, none⟩), .slice A 1 c]) ∧ IntRow w' A 1 [i - 4] ∧ Below w.heap.size w w' ∧ ∀ b o, A = some ⟨b, o, none⟩ → w.heap.size ≤ b) → WayYes X i w e w') := Lib.hid (fun e w' ⟨A, c, h1, h2, h3⟩ => by
    have e1 : Fs.placesN i = [i - 4] := by unfold Fs.placesN; rw [p1, if_pos rfl, p2, if_neg (by decide), if_pos rfl, p4]
    have e2 : offN i = 9 := by unfold offN; rw [p2, if_neg (by decide), if_pos rfl]
    unfold WayYes
    rw [e1, e2]
    exact ⟨A, c, h1, h2, h3⟩)
  have S := Lib.hid (Lo.start (L := []) w (by simp))
  clear p1 p2 p3 p4
  generalize i - 4 = k at HW HE
  go_enter Tryz.func93, Tryz.ntmps93
  go_wp2_with (first
    | (go_at_call 131; (with_reducible refine (HW.out _).mono ?_); rintro e w2 ⟨rfl, hb⟩; replace S := Lib.hid (S.out.below hb); clear hb)
    | ((with_reducible refine wpList_store_newrow (vs := wayL 1 0 k) wayT ?_ (wayL_one _ _ _) rfl (.tmp 6) (.tmp 11) rfl rfl ?_ ?_ ?_); (exact rfl); (exact rfl); (exact rfl); intro W4 hP hB2 hz2; replace S := Lib.hid (S.out.made hP hB2 hz2); clear hP hB2 hz2; have c0 := (S.out.get 0 _ rfl).cell 0 _ rfl; have c1 := (S.out.get 0 _ rfl).cell 1 _ rfl; have c2 := (S.out.get 0 _ rfl).cell 2 _ rfl))
  go_region
  all_goals
    go_wp2
    go_ret2
    exact HE.out _ _ ⟨_, _, rfl, intRow_new W4 [k] _ (by simp), ((S.out.skip _).drew).bel, fun b o h => by injection h with h; injection h with h; subst h; exact S.out.only.size⟩
set_option maxRecDepth 100000 in
set_option maxHeartbeats 2000000 in
theorem way_2 (X : Nat) (i : Int) (w : World) (h0 : 36 ≤ i) (h1 : i < 1060) : Calls Tryz.prog 93 #[.pointer (some ⟨X, 0, none⟩), .int .i64 i] w (WayYes X i w) := by
  obtain ⟨p1, p2, p3, p4⟩ := Sp.page2 h0 h1
  have HW : Hid (∀ w, Calls Tryz.prog 131 #[.int .i64 i] w fun e w' => e = .returned (.tuple #[wayV 2 (Sp.out i) (Sp.inn i), .bool true]) ∧ Below w.heap.size w w') := Lib.hid (fun w => by
    have := where_any i w
    unfold WhereGives at this
    rw [p1, p2] at this
    exact this)
  have HE : Hid (∀ e w', (∃ A c, e = .returned (.tuple #[.pointer (some ⟨X, 10, none⟩), .slice A 2 c]) ∧ IntRow w' A 2 [Sp.out i, Sp.inn i] ∧ Below w.heap.size w w' ∧ ∀ b o, A = some ⟨b, o, none⟩ → w.heap.size ≤ b) → WayYes X i w e w') := Lib.hid (fun e w' ⟨A, c, h1, h2, h3⟩ => by
    have e1 : Fs.placesN i = [Sp.out i, Sp.inn i] := by unfold Fs.placesN; rw [p1, if_pos rfl, p2, if_neg (by decide), if_neg (by decide)]
    have e2 : offN i = 10 := by unfold offN; rw [p2, if_neg (by decide), if_neg (by decide)]
    unfold WayYes
    rw [e1, e2]
    exact ⟨A, c, h1, h2, h3⟩)
  have S := Lib.hid (Lo.start (L := []) w (by simp))
  clear p1 p2 p3 p4
  generalize Sp.inn i = k at HW HE
  generalize Sp.out i = o at HW HE
  go_enter Tryz.func93, Tryz.ntmps93
  go_wp2_with (first
    | (go_at_call 131; (with_reducible refine (HW.out _).mono ?_); rintro e w2 ⟨rfl, hb⟩; replace S := Lib.hid (S.out.below hb); clear hb)
    | ((with_reducible refine wpList_store_newrow (vs := wayL 2 o k) wayT ?_ (wayL_one _ _ _) rfl (.tmp 6) (.tmp 11) rfl rfl ?_ ?_ ?_); (exact rfl); (exact rfl); (exact rfl); intro W4 hP hB2 hz2; replace S := Lib.hid (S.out.made hP hB2 hz2); clear hP hB2 hz2; have c0 := (S.out.get 0 _ rfl).cell 0 _ rfl; have c1 := (S.out.get 0 _ rfl).cell 1 _ rfl; have c2 := (S.out.get 0 _ rfl).cell 2 _ rfl))
  go_region
  all_goals
    go_wp2
    go_ret2
    exact HE.out _ _ ⟨_, _, rfl, intRow_new W4 [o, k] _ (by simp), ((S.out.skip _).drew).bel, fun b o h => by injection h with h; injection h with h; subst h; exact S.out.only.size⟩
theorem way_yes (X : Nat) (i : Int) (w : World) (h : Sp.okB i = true) : Calls Tryz.prog 93 #[.pointer (some ⟨X, 0, none⟩), .int .i64 i] w (WayYes X i w) := by
  rcases Sp.kinds i with c | ⟨c1, c2⟩ | ⟨c1, c2⟩ | ⟨c1, c2⟩
  · rw [(Sp.no_page c).1] at h; cases h
  · exact way_0 X i w c1 c2
  · exact way_1 X i w c1 c2
  · exact way_2 X i w c1 c2
theorem first_cell {w : World} {X : Nat} {x : Ino} (h : RowAt w X (inoL x)) (i : Int) (hi : Sp.okB i = true) : w.cell? ⟨X, offN i, none⟩ = some (.int .i64 (Fs.firstN x i)) := by
  refine h.cell _ _ ?_
  unfold offN Fs.firstN
  rw [if_pos hi]
  rcases Sp.kinds i with c | ⟨c1, c2⟩ | ⟨c1, c2⟩ | ⟨c1, c2⟩
  · rw [(Sp.no_page c).1] at hi; cases hi
  · obtain ⟨_, p2, _, p4⟩ := Sp.page0 c1 c2
    rw [p2, if_pos rfl, if_pos rfl, p4]
    obtain ⟨k, rfl⟩ := Int.eq_ofNat_of_zero_le c1
    rw [Int.toNat_natCast]
    have : k = 0 ∨ k = 1 ∨ k = 2 ∨ k = 3 := by omega
    rcases this with rfl | rfl | rfl | rfl <;> rfl
  · obtain ⟨_, p2, _, _⟩ := Sp.page1 c1 c2
    rw [p2, if_neg (by decide), if_pos rfl, if_neg (by decide), if_pos rfl]; rfl
  · obtain ⟨_, p2, _, _⟩ := Sp.page2 c1 c2
    rw [p2, if_neg (by decide), if_neg (by decide), if_neg (by decide), if_neg (by decide)]; rfl
theorem find_box (w : World) (st : Nat) (n I : Int) (x : Ino) : Lo [] w [(w.heap.size, baseL st n I), (w.heap.size + 1, inoL x)] ((w.alloc (.cells #[.pointer (some ⟨st, 0, none⟩), .int .i64 n, .int .i64 I] 77)).alloc (.cells (inoL x).toArray 31)) :=
  (base_box w st n I).alloc (w.heap.size + 1) (by simp) (inoL x) 31
theorem places_len (i : Int) : (Fs.placesN i).length ≤ 2 := by
  unfold Fs.placesN
  split
  · split
    · simp
    · split <;> simp
  · simp
set_option maxRecDepth 100000 in
set_option maxHeartbeats 2000000 in
theorem bfind_no {w : World} {b : Blk} (n I : Int) (x : Ino) (i : Int) (h : Sp.okB i = false) : Calls Tryz.prog 99 #[baseV b.s n I, inoV x, .int .i64 i] w fun e w' => e = .returned (.tuple #[.int .i64 0, .int .i64 0]) ∧ Below w.heap.size w w' := by
  have S := Lib.hid (find_box w b.s n I x)
  have HW := Lib.hid (fun X w => way_no X i w h)
  clear h
  unfold baseV inoV
  go_enter Tryz.func99, Tryz.ntmps99
  go_wp2_with (go_at_call 93; (with_reducible refine (HW.out _ _).mono ?_); rintro e w2 ⟨F, rfl, cF, _, _, hb⟩; replace S := Lib.hid (S.out.below hb); clear hb)
  go_loop [10, 25] (fun m i => m = .int .i64 0 ∧ i = .int .i64 0) (fun _ _ => 0)
  case atStart => exact ⟨rfl, rfl⟩
  case round =>
    obtain ⟨rfl, rfl⟩ := hrel
    go_wp2
    go_ret2
    exact ⟨rfl, S.out.bel⟩
set_option maxRecDepth 100000 in
set_option maxHeartbeats 2000000 in
theorem bfind_yes {w : World} {b : Blk} {s : Sto} {n I : Int} (hst : StoreAt w b s) (v : Vs s n I) (x : Ino) (i : Int) (h : Sp.okB i = true) : Calls Tryz.prog 99 #[baseV b.s n I, inoV x, .int .i64 i] w fun e w' => e = .returned (exV (fun m => .int .i64 m) (.int .i64 0) (Fs.findF n I x i (nv s))) ∧ Below w.heap.size w w' := by
  have S := Lib.hid (find_box w b.s n I x)
  have HW := Lib.hid (fun X w => way_yes X i w h)
  have HF := Lib.hid (fun (W : World) (l : List (Nat × List Value)) (hW : Lo [] w [(w.heap.size, baseL b.s n I), (w.heap.size + 1, inoL x)] W) => first_cell (hW.get 1 _ rfl) i h)
  have HD : Hid (∀ W l m, Lo [] w l W → Calls Tryz.prog 98 #[baseV b.s n I, .int .i64 m] W fun e w' => e = .returned (exV pageV (pageV zeros) (Fs.dataF n I m (nv s))) ∧ Below W.heap.size W w') := Lib.hid (fun W l m hl => bdata_any (hl.store hst) v m)
  have HLN := Lib.hid (fun (m : Int) (p : List UInt8) (hd : Fs.dataF n I m (nv s) = .ok p) => data_len v hd)
  have HER := Lib.hid (fun (m e : Int) (hd : Fs.dataF n I m (nv s) = .error e) => data_err hd)
  unfold Fs.findF
  have hl2 := places_len i
  unfold WayYes at HW
  clear h v hst
  generalize Fs.placesN i = ks at HW hl2 ⊢
  generalize Fs.firstN x i = m0 at HF ⊢
  generalize offN i = off0 at HW HF
  generalize hR0 : Fs.goF n I (nv s) ks m0 = R
  have HR0 := Lib.hid hR0
  clear hR0
  unfold baseV inoV
  unfold baseV at HD
  go_enter Tryz.func99, Tryz.ntmps99
  go_wp2_with (go_at_call 93; (with_reducible refine (HW.out _ _).mono ?_); rintro e w2 ⟨A, c, rfl, hR, hb, _⟩; replace S := Lib.hid (S.out.below hb); have HRW := Lib.hid hR; have hF0 := HF.out _ [] S.out; clear hR hb)
  clear hF0 HW HF
  obtain ⟨len, hlen⟩ : ∃ len, ks.length = len := ⟨_, rfl⟩
  have HLE := Lib.hid hlen
  rw [hlen] at hl2 HRW ⊢
  clear hlen
  go_loopw [10, 25] (fun m i wr => ∃ (k : Nat) (y : Int), k ≤ len ∧ i = .int .i64 k ∧ m = .int .i64 y ∧ Hid (Fs.goF n I (nv s) (ks.drop k) y = R) ∧ Lo [] w [(w.heap.size, baseL b.s n I), (w.heap.size + 1, inoL x)] wr ∧ IntRow wr A len ks) (fun _ i _ => len - (intOf i).toNat)
  case atStart => exact ⟨0, m0, Nat.zero_le _, rfl, rfl, HR0, S.out, HRW.out⟩
  case round =>
    obtain ⟨k, y, hk, rfl, rfl, HG, hS, hR⟩ := hrel
    replace S := Lib.hid hS
    replace HRW := Lib.hid hR
    clear hS hR
    by_cases hlt : k < len
    · obtain ⟨bb, off, rfl, hbb, hcc⟩ := HRW.out.cells (by omega)
      obtain ⟨kk, hkk⟩ : ∃ kk, ks[k]? = some kk := ⟨_, List.getElem?_eq_getElem (by rw [HLE.out]; exact hlt)⟩
      have ck := hcc k kk hkk
      have HDR : Hid (ks.drop k = kk :: ks.drop (k + 1)) := Lib.hid (by
        obtain ⟨q1, q2⟩ := List.getElem?_eq_some_iff.1 hkk
        rw [List.drop_eq_getElem_cons q1, q2])
      clear hcc hkk hbb
      rw [HDR.out] at HG
      unfold Fs.goF at HG
      cases hd : Fs.dataF n I y (nv s) with
      | ok p =>
        have HP := Lib.hid (HLN.out y p hd)
        have HDD := Lib.hid (fun (W : World) (l : List (Nat × List Value)) (hl : Lo [] w l W) => HD.out W l y hl)
        rw [hd] at HG HDD
        simp only [exV] at HDD
        clear hd
        have HN : Hid (∀ W, Calls Tryz.prog 95 #[pageV p, .int .i64 kk] W fun e w' => e = .returned (.int .i64 (numN p kk)) ∧ Below W.heap.size W w') := Lib.hid (fun W => number_any p kk W HP.out)
        go_wp2_with (first
          | (with_reducible refine wpList_load_base (S.out.get 0 _ rfl).base rfl (.tmp 3) rfl rfl ?_)
          | (go_at_call 98; refine (HDD.out _ _ S.out).mono ?_; rintro e w3 ⟨rfl, hb⟩; replace S := Lib.hid (S.out.below hb); replace HRW := Lib.hid (HRW.out.step hb); clear hb ck)
          | ((with_reducible refine wpList_store_new rfl (.tmp 13) (.tmp 33) rfl rfl ?_ ?_ HP.out ?_); (exact rfl); (exact rfl); intro W2 hP hB2 hz2; replace S := Lib.hid (S.out.made hP.rowAt hB2 hz2); replace HRW := Lib.hid (HRW.out.step hB2); clear hP hB2 hz2)
          | (with_reducible refine wpList_load_page (S.out.page 2 rfl HP.out) rfl (.tmp 13) rfl rfl ?_)
          | (go_at_call 95; (with_reducible refine (HN.out _).mono ?_); rintro e w4 ⟨rfl, hb⟩; replace S := Lib.hid (S.out.below hb); replace HRW := Lib.hid (HRW.out.step hb); clear hb))
        go_roundw
        case rel => exact ⟨k + 1, _, by omega, by go_num, rfl, HG, S.out.cut 2, HRW.out⟩
        case measure => simp [intOf]; omega
      | error er =>
        have he5 := HER.out y er hd
        subst he5
        have HDD := Lib.hid (fun (W : World) (l : List (Nat × List Value)) (hl : Lo [] w l W) => HD.out W l y hl)
        rw [hd] at HG HDD
        simp only [exV] at HDD
        clear hd
        go_wp2_with (first
          | (with_reducible refine wpList_load_base (S.out.get 0 _ rfl).base rfl (.tmp 3) rfl rfl ?_)
          | (go_at_call 98; refine (HDD.out _ _ S.out).mono ?_; rintro e w3 ⟨rfl, hb⟩; replace S := Lib.hid (S.out.below hb); replace HRW := Lib.hid (HRW.out.step hb); clear hb ck)
          | ((with_reducible refine wpList_store_new rfl (.tmp 13) (.tmp 33) rfl rfl ?_ ?_ zeros_length ?_); (exact rfl); (exact rfl); intro W2 hP hB2 hz2; replace S := Lib.hid (S.out.made hP.rowAt hB2 hz2); clear hP hB2 hz2))
        go_ret2
        rw [← HG.out]
        exact ⟨rfl, S.out.bel⟩
    · obtain rfl : k = len := by omega
      have HZ : Hid (ks.drop k = []) := Lib.hid (List.drop_of_length_le (by rw [HLE.out]; omega))
      rw [HZ.out] at HG
      go_wp2_with fail
      go_ret2
      rw [← HG.out]
      exact ⟨rfl, S.out.bel⟩
theorem bfind_any {w : World} {b : Blk} {s : Sto} {n I : Int} (hst : StoreAt w b s) (v : Vs s n I) (x : Ino) (i : Int) : Calls Tryz.prog 99 #[baseV b.s n I, inoV x, .int .i64 i] w fun e w' => e = .returned (exV (fun m => .int .i64 m) (.int .i64 0) (Fs.findF n I x i (nv s))) ∧ Below w.heap.size w w' := by
  cases h : Sp.okB i with
  | false =>
    have e : Fs.findF n I x i (nv s) = .ok 0 := by
      unfold Fs.findF Fs.placesN Fs.firstN
      rw [h, if_neg (by decide), if_neg (by decide)]; rfl
    rw [e]
    exact bfind_no n I x i h
  | true => exact bfind_yes hst v x i h
theorem go_err {n I : Int} {V : Fs.View} : ∀ (ks : List Int) (m : Int) {e : Int}, Fs.goF n I V ks m = .error e → e = 5
  | [], m, e, h => by cases h
  | k :: ks, m, e, h => by
    rw [Fs.goF] at h
    cases hd : Fs.dataF n I m V with
    | ok p => rw [hd] at h; exact go_err ks _ h
    | error er => rw [hd] at h; injection h with h; rw [← h]; exact data_err hd
theorem find_err {n I : Int} {V : Fs.View} {x : Ino} {i e : Int} (h : Fs.findF n I x i V = .error e) : e = 5 := go_err _ _ h
end Go.Proofs.YtncmihikpcdgoaaGreat

namespace Go.Proofs.YtncmihikpcdgoaaGreat
open Go.RowKit Go.Maps
open Dk (zeros zeros_length)
open Ii (Ino)
def pcL (c : Fs.Pc) : List Value := [.int .i64 (c.idx : Int), .int .i64 (c.at1 : Int), .int .i64 (c.size : Int)]
theorem pcL_one (c : Fs.Pc) : ∀ v ∈ pcL c, v.oneCell' = true := by
  intro v hv
  simp [pcL] at hv
  rcases hv with rfl | rfl | rfl <;> rfl
theorem pcL_length (c : Fs.Pc) : (pcL c).length = 3 := rfl
set_option maxRecDepth 100000 in
theorem pcT : RowT 91 3 := ⟨⟨_, Tryz.underlying91, rfl⟩, by kernel_rfl⟩
set_option maxRecDepth 100000 in
theorem info_pc : (Tryz.prog.info? 91).map (fun i => (i.zero, i.size, i.bytes)) = some (some (.agg #[.int .i64 0, .int .i64 0, .int .i64 0]), 3, 24) := by kernel_rfl
/-- pieces that lie in memory -/
structure PcRow (w : World) (A : Option Addr) (cs : List Fs.Pc) : Prop where
  cells : 0 < cs.length → ∃ b off, A = some ⟨b, off, none⟩ ∧ b < w.heap.size ∧ ∀ i c, cs[i]? = some c → w.rangeAt b (off + i * 3) (pcL c)
theorem PcRow.step {w w' : World} {A : Option Addr} {cs : List Fs.Pc} (h : PcRow w A cs) (hb : Below w.heap.size w w') : PcRow w' A cs :=
  ⟨fun h0 => by
    obtain ⟨b, off, e, hlt, hc⟩ := h.cells h0
    exact ⟨b, off, e, Nat.lt_of_lt_of_le hlt hb.size, fun i c hi j v hv => (hb.cell (p := ⟨b, off + i * 3 + j, none⟩) hlt).trans (hc i c hi j v hv)⟩⟩
theorem PcRow.only {w w' : World} {A : Option Addr} {cs : List Fs.Pc} {L : List Nat} (h : PcRow w A cs) (ho : Only L w w') (hL : ∀ b off, A = some ⟨b, off, none⟩ → b ∉ L) : PcRow w' A cs :=
  ⟨fun h0 => by
    obtain ⟨b, off, e, hlt, hc⟩ := h.cells h0
    exact ⟨b, off, e, Nat.lt_of_lt_of_le hlt ho.size, fun i c hi => rangeAt_block (hc i c hi) (ho.block b hlt (hL b off e))⟩⟩
theorem pflat_at : ∀ (xs : List Fs.Pc) (i : Nat) (x : Fs.Pc) (j : Nat) (v : Value), xs[i]? = some x → (pcL x)[j]? = some v → (xs.flatMap pcL)[i * 3 + j]? = some v
  | [], i, x, j, v, hx, _ => by simp at hx
  | y :: r, 0, x, j, v, hx, hv => by
    simp at hx
    subst hx
    have hj : j < 3 := (List.getElem?_eq_some_iff.1 hv).1
    rw [List.flatMap_cons, Nat.zero_mul, Nat.zero_add, List.getElem?_append_left (by rw [pcL_length]; exact hj)]
    exact hv
  | y :: r, i + 1, x, j, v, hx, hv => by
    rw [List.flatMap_cons, List.getElem?_append_right (by rw [pcL_length]; omega), pcL_length, show (i + 1) * 3 + j - 3 = i * 3 + j by omega]
    exact pflat_at r i x j v (by simpa using hx) hv
theorem owns_pcRow {w : World} {base : Nat} {A : Option Addr} {n c : Nat} {xs : List Fs.Pc} (h : w.ownsRow base 91 3 (.slice A n c) n (xs.flatMap pcL)) (hn : n = xs.length) : PcRow w A xs := ⟨fun h0 => by
  obtain ⟨h1, h2⟩ := h
  rcases h2 with ⟨e, e2⟩ | ⟨g, cap, cur, e, hb, hg, _, _, hsz, htk⟩
  · exfalso; omega
  · injection e with e _ _
    refine ⟨g, 0, e, (Array.getElem?_eq_some_iff.1 hg).1, fun i x hxi j v hv => ?_⟩
    have hf := pflat_at xs i x j v hxi hv
    rw [← htk] at hf
    have hlt : i * 3 + j < n * 3 := by
      have := (List.getElem?_eq_some_iff.1 hf).1
      rw [List.length_take] at this; omega
    rw [List.getElem?_take_of_lt hlt] at hf
    simp only [World.cell?, hg, Nat.zero_add]
    simp only [Option.isSome_none, Bool.false_eq_true, if_false]
    rw [← Array.getElem?_toList]
    exact hf⟩
theorem Only.grownL {L : List Nat} {w0 w w' : World} {r : Option Nat} (h : Only L w0 w) (hg : w.grownBy w' r) (hr : ∀ j, r = some j → w0.heap.size ≤ j) : Only L w0 w' where
  os := hg.os.trans h.os
  tape := hg.tape.trans h.tape
  output := hg.output.trans h.output
  size := Nat.le_trans h.size hg.size
  block := fun k hk hn => (hg.block k (Nat.lt_of_lt_of_le hk h.size) (fun e => by have := hr k e.symm; omega)).trans (h.block k hk hn)
theorem Lo.grown {L : List Nat} {w0 w w' : World} {l : List (Nat × List Value)} {r : Option Nat} (h : Lo L w0 l w) (hg : w.grownBy w' r) (hr : ∀ j, r = some j → w0.heap.size ≤ j ∧ ∀ x ∈ l, x.1 ≠ j) : Lo L w0 l w' where
  row := fun x hx => by
    obtain ⟨h1, h2, h3⟩ := h.row x hx
    exact ⟨h1.block (hg.block _ h3 (fun e => (hr _ e.symm).2 x hx rfl)), h2, Nat.lt_of_lt_of_le h3 hg.size⟩
  ne := h.ne
  only := h.only.grownL hg (fun j e => (hr j e).1)
  low := h.low
def PcsGive (cs : List Fs.Pc) (w : World) (e : Ending) (w' : World) : Prop := ∃ A c, e = .returned (.slice A cs.length c) ∧ PcRow w' A cs ∧ (∀ b off, A = some ⟨b, off, none⟩ → w.heap.size ≤ b) ∧ Below w.heap.size w w'
set_option maxRecDepth 100000 in
set_option maxHeartbeats 4000000 in
theorem pieces_some (off n : Nat) (w : World) (h1 : n ≤ 67840) (h2 : off ≤ 5000000000) : Calls Tryz.prog 51 #[.int .i64 (off : Int), .int .i64 (n : Int)] w (PcsGive (Fs.pieces off n) w) := by
  have HS0 := Lib.hid (Lo.start (L := []) w (by simp))
  have HOW : Hid (w.ownsRow w.heap.size 91 3 (.slice none 0 0) 0 (([] : List Fs.Pc).flatMap pcL)) := Lib.hid ⟨rfl, Or.inl ⟨rfl, rfl⟩⟩
  generalize hPC : Fs.pieces off n = all
  have HPC := Lib.hid hPC
  clear hPC
  go_enter Tryz.func51, Tryz.ntmps51
  go_wp2
  go_loopw [0, 1, 5] (fun o m l wr => ∃ (x y : Nat) (done : List Fs.Pc) (A : Option Addr) (c k : Nat), x + y ≤ off + n ∧ y ≤ n ∧ k + y ≤ n ∧ o = .int .i64 (x : Int) ∧ m = .int .i64 (y : Int) ∧ l = .slice A k c ∧ Hid (k = done.length) ∧ Hid (done ++ Fs.pieces x y = all) ∧ wr.ownsRow w.heap.size 91 3 (.slice A k c) k (done.flatMap pcL) ∧ Lo [] w [] wr) (fun _ m _ _ => (intOf m).toNat)
  case atStart => exact ⟨off, n, [], none, 0, 0, Nat.le_refl _, Nat.le_refl _, by omega, rfl, rfl, rfl, Lib.hid rfl, HPC, HOW.out, HS0.out⟩
  case round =>
    obtain ⟨x, y, done, A, c, k, hxy, hyn, hky, rfl, rfl, rfl, HK, HD, hown, hS⟩ := hrel
    have S := Lib.hid hS
    have HO := Lib.hid hown
    clear hS hown HS0 HOW HPC
    by_cases hy : 0 < y
    · have HST := Lib.hid (Fs.pieces_step x y (by omega))
      have hq1 : (x : Int) / 64 = ((x / 64 : Nat) : Int) := by omega
      have hq2 : (x : Int) % 64 = ((x % 64 : Nat) : Int) := by omega
      have hq3 : min (y : Int) (64 - ((x % 64 : Nat) : Int)) = ((min y (64 - x % 64) : Nat) : Int) := by omega
      have hm1 : 1 ≤ min y (64 - x % 64) := by omega
      have hm2 : min y (64 - x % 64) ≤ y := by omega
      have hx64 : x % 64 < 64 := Nat.mod_lt _ (by omega)
      generalize min y (64 - x % 64) = z at HST hq3 hm1 hm2
      generalize x % 64 = r at HST hq2 hq3 hx64
      generalize x / 64 = qq at HST hq1
      have S1 : Hid (Lo [] w [(wr.heap.size, pcL ⟨qq, r, z⟩)] ((wr.alloc (.cells (pcL ⟨qq, r, z⟩).toArray 91)).alloc (.cells (pcL ⟨qq, r, z⟩).toArray 91))) := Lib.hid ((S.out.alloc _ rfl (pcL ⟨qq, r, z⟩) _).skip _)
      have HNW : Hid (∀ j u, (pcL ⟨qq, r, z⟩)[j]? = some u → ((wr.alloc (.cells (pcL ⟨qq, r, z⟩).toArray 91)).alloc (.cells (pcL ⟨qq, r, z⟩).toArray 91)).cell? ((⟨wr.heap.size + 1, 0, none⟩ : Addr).add j) = some u) := Lib.hid (by
        have := cell_new (wr.alloc (.cells (pcL ⟨qq, r, z⟩).toArray 91)) (pcL ⟨qq, r, z⟩) 91
        simpa using this)
      have HO2 := Lib.hid ((HO.out.alloc (.cells (pcL ⟨qq, r, z⟩).toArray 91)).alloc (.cells (pcL ⟨qq, r, z⟩).toArray 91))
      have HSZ : Hid (w.heap.size ≤ ((wr.alloc (.cells (pcL ⟨qq, r, z⟩).toArray 91)).alloc (.cells (pcL ⟨qq, r, z⟩).toArray 91)).heap.size) := Lib.hid (by have := S.out.only.size; simp; omega)
      have HLT := Lib.hid (fun j hj => HO.out.lt j hj)
      obtain ⟨i0, hi0, hz0, hs0, hb0⟩ := info_parts info_pc
      have HI0 := Lib.hid hi0
      have HZ0 := Lib.hid hz0
      have HS0 := Lib.hid hs0
      have HB0 := Lib.hid hb0
      clear hi0 hz0 hs0 hb0
      go_wp2_with (at_builtin; go_must (refine wpList_append_own_at _ rfl (.tmp 20) (.tmp 22) 88 rfl w.heap.size 91 i0 _ 3 24 Tryz.underlying88 HI0.out HZ0.out HS0.out HB0.out rfl (by omega) _ k _ rfl HO2.out ⟨wr.heap.size + 1, 0, none⟩ 1 1 (pcL ⟨qq, r, z⟩) rfl rfl HNW.out (pcL_one _) (by unfold maxLen; omega) (by omega) HSZ.out ?_); intro v' w5 hown' hgrow hnil hloc; obtain ⟨A', c', rfl⟩ := owns_slice hown'; have S2 := Lib.hid (S1.out.grown hgrow (fun j hj => ⟨(HLT.out j hj).1, fun x hx => by rw [List.mem_singleton] at hx; subst hx; have := (HLT.out j hj).2; simp only; omega⟩)); have HO3 := Lib.hid hown'; clear hown' hgrow hnil hloc; have c0 := (S2.out.get 0 _ rfl).cell 0 _ rfl; have c1 := (S2.out.get 0 _ rfl).cell 1 _ rfl; have c2 := (S2.out.get 0 _ rfl).cell 2 _ rfl)
      clear hq1 hq2 hq3 S1 HNW HO2 HSZ HLT HI0 HZ0 HS0 HB0 S HO
      have hs1 : IntKind.i64.wrap ((x : Int) + (z : Int)) = (x : Int) + (z : Int) := IntWalk.i64_in _ (by omega)
      have hs2 : IntKind.i64.wrap ((y : Int) - (z : Int)) = (y : Int) - (z : Int) := IntWalk.i64_in _ (by omega)
      go_quiet (fail)
      clear hs1 hs2 c0 c1 c2
      go_wp2
      have HR1 : Hid (k + 1 = (done ++ [(⟨qq, r, z⟩ : Fs.Pc)]).length) := Lib.hid (by rw [HK.out]; simp)
      have HR2 : Hid ((done ++ [(⟨qq, r, z⟩ : Fs.Pc)]) ++ Fs.pieces (x + z) (y - z) = all) := Lib.hid (by rw [← HD.out, HST.out]; simp)
      have HR3 : Hid (w5.ownsRow w.heap.size 91 3 (.slice A' (k + 1) c') (k + 1) ((done ++ [(⟨qq, r, z⟩ : Fs.Pc)]).flatMap pcL)) := Lib.hid (by rw [List.flatMap_append]; simpa using HO3.out)
      have hn1 : (x : Int) + (z : Int) = ((x + z : Nat) : Int) := by omega
      have hn2 : (y : Int) - (z : Int) = ((y - z : Nat) : Int) := by omega
      go_roundw
      case rel => exact ⟨x + z, y - z, _, A', c', k + 1, by omega, by omega, by omega, by rw [hn1], by rw [hn2], rfl, HR1, HR2, HR3.out, (S2.out.cut 0).drewN _⟩
      case measure => simp [intOf]; omega
    · obtain rfl : y = 0 := by omega
      have HF : Hid (PcsGive all w (.returned (.slice A k c)) wr) := Lib.hid (by
        have e : all = done := by rw [← HD.out, Fs.pieces_zero, List.append_nil]
        rw [e]
        refine ⟨A, c, by rw [HK.out], owns_pcRow HO.out HK.out, fun b off hA => ?_, S.out.bel⟩
        subst hA
        exact (HO.out.lt b rfl).1)
      clear HO HK HD
      go_wp2_with fail
      go_ret
      exact HF.out
end Go.Proofs.YtncmihikpcdgoaaGreat

namespace Go.Proofs.YtncmihikpcdgoaaGreat
open Dk (zeros zeros_length)
open Go.RowKit
end Go.Proofs.YtncmihikpcdgoaaGreat

namespace Go.Proofs.YtncmihikpcdgoaaGreat
open Go.RowKit Go.Maps
open Dk (zeros zeros_length)
/-- a builder in block b, its buffer, if it has one, in a block from B on -/
def Bld (B b : Nat) (p : Value) (l : List UInt8) (w : World) : Prop := ∃ v, w.heap[b]? = some (.cells #[p, v] 146 (0, 0)) ∧ w.ownsRow B 5 1 v l.length (byteVals l) ∧ (l = [] → v = .slice none 0 0)
theorem Bld.step {B b : Nat} {p : Value} {l : List UInt8} {w w' : World} (h : Bld B b p l w) (hb : Below w.heap.size w w') : Bld B b p l w' := by
  obtain ⟨v, h1, h2, h3⟩ := h
  have hlt := (Array.getElem?_eq_some_iff.1 h1).1
  refine ⟨v, (hb.block b hlt).trans h1, ?_, h3⟩
  obtain ⟨q1, q2⟩ := h2
  refine ⟨q1, ?_⟩
  rcases q2 with q | ⟨g, cap, cur, e1, e2, e3, e4⟩
  · exact Or.inl q
  · exact Or.inr ⟨g, cap, cur, e1, e2, (hb.block g (Array.getElem?_eq_some_iff.1 e3).1).trans e3, e4⟩
end Go.Proofs.YtncmihikpcdgoaaGreat

namespace Go.Proofs.YtncmihikpcdgoaaGreat
open Go.RowKit Go.Maps
open Dk (zeros zeros_length)
open Ii (Ino)
namespace Fs
def psum : List Pc → Nat
  | [] => 0
  | c :: cs => c.size + psum cs
theorem pieces_spec : ∀ (n off : Nat), psum (pieces off n) = n ∧ ∀ c ∈ pieces off n, 1 ≤ c.size ∧ c.at1 + c.size ≤ 64 := by
  intro n
  induction n using Nat.strongRecOn with
  | ind n ih =>
    intro off
    by_cases h : n = 0
    · subst h; exact ⟨rfl, fun c hc => by cases hc⟩
    · rw [pieces_step off n h]
      have h64 : off % 64 < 64 := Nat.mod_lt _ (by omega)
      obtain ⟨h1, h2⟩ := ih (n - min n (64 - off % 64)) (by omega) (off + min n (64 - off % 64))
      refine ⟨?_, fun c hc => ?_⟩
      · rw [psum, h1]; simp only; omega
      · rcases List.mem_cons.1 hc with rfl | hc
        · simp only; omega
        · exact h2 c hc
theorem psum_drop (cs : List Pc) (k : Nat) (c : Pc) (h : cs[k]? = some c) : psum (cs.drop k) = c.size + psum (cs.drop (k + 1)) := by
  obtain ⟨h1, h2⟩ := List.getElem?_eq_some_iff.1 h
  rw [List.drop_eq_getElem_cons h1, h2]; rfl
end Fs
theorem strOf_nil : (⟨#[]⟩ : ByteArray) = strOf [] := rfl
end Go.Proofs.YtncmihikpcdgoaaGreat

namespace Go.Proofs.YtncmihikpcdgoaaGreat
open Go.RowKit Go.Maps
open Dk (zeros zeros_length)
open Ii (Ino)
/-- a step's call on its way: the rows that it made, and what is left to do -/
structure Stp {α : Type} (R : Ending → World → Prop) (B : Nat) (b : Blk) (n I : Int) (Ls : List Nat) (w0 : World) (K : α → Ending → World → Prop) (l : List (Nat × List Value)) (s : Sto) (m : Fs.M α) (w : World) : Prop where
  lo : Lo (b.t :: Ls) w0 l w
  ctx : Ctx w B b s n I
  low : ∀ k ∈ B :: b.all, k < w0.heap.size
  left : ∀ e w', Ends B b n I Ls w0 s m K e w' → R e w'
section
variable {α β : Type} {R : Ending → World → Prop} {B : Nat} {b : Blk} {n I : Int} {Ls : List Nat} {w0 w w' : World} {K : α → Ending → World → Prop} {l : List (Nat × List Value)} {s : Sto} {m : Fs.M α}
theorem Blk.t_mem (b : Blk) : b.t ∈ b.all := by simp [Blk.all]
theorem Stp.start (h : Ctx w B b s n I) (hL : ∀ k ∈ Ls, k < w.heap.size) (H : Hid (∀ e w', Ends B b n I Ls w s m K e w' → R e w')) : Stp R B b n I Ls w K [] s m w :=
  ⟨Lo.start w (fun k hk => by
    rcases List.mem_cons.1 hk with rfl | hk
    · exact h.store.lt _ b.t_mem
    · exact hL k hk), h, fun k hk => by
    rcases List.mem_cons.1 hk with rfl | hk
    · exact h.lt
    · exact h.store.lt k hk, H.out⟩
theorem Stp.below (h : Stp R B b n I Ls w0 K l s m w) (hb : Below w.heap.size w w') : Stp R B b n I Ls w0 K l s m w' := ⟨h.lo.below hb, h.ctx.below hb, h.low, h.left⟩
theorem Stp.drewN (h : Stp R B b n I Ls w0 K l s m w) (k : Nat) : Stp R B b n I Ls w0 K l s m (w.drewN k) := h.below (below_drewN _ _)
theorem Stp.drew (h : Stp R B b n I Ls w0 K l s m w) : Stp R B b n I Ls w0 K l s m w.drew := h.below ((Below.refl _ _).drew)
theorem Stp.made {vs : List Value} (h : Stp R B b n I Ls w0 K l s m w) (hR : RowAt w' w.heap.size vs) (hb : Below w.heap.size w w') (hz : w'.heap.size = w.heap.size + 1) : Stp R B b n I Ls w0 K (l ++ [(w.heap.size, vs)]) s m w' :=
  ⟨h.lo.made hR hb hz, h.ctx.below hb, h.low, h.left⟩
theorem below_alloc (w : World) (o : Obj) : Below w.heap.size w (w.alloc o) := (Below.refl _ w).alloc (Nat.le_refl _) o
theorem Stp.alloc (h : Stp R B b n I Ls w0 K l s m w) (X : Nat) (hX : w.heap.size = X) (vs : List Value) (t : TypeId) : Stp R B b n I Ls w0 K (l ++ [(X, vs)]) s m (w.alloc (.cells vs.toArray t)) :=
  ⟨h.lo.alloc X hX vs t, h.ctx.below (below_alloc _ _), h.low, h.left⟩
theorem Stp.cut (h : Stp R B b n I Ls w0 K l s m w) (k : Nat) : Stp R B b n I Ls w0 K (l.take k) s m w := ⟨h.lo.cut k, h.ctx, h.low, h.left⟩
theorem Stp.get (h : Stp R B b n I Ls w0 K l s m w) (k : Nat) (x : Nat × List Value) (hx : l[k]? = some x) : RowAt w x.1 x.2 := h.lo.get k x hx
theorem Stp.lower (h : Stp R B b n I Ls w0 K l s m w) {x : Nat × List Value} (hx : x ∈ l) : x.1 ≠ B ∧ x.1 ∉ b.all := by
  have h1 := (h.lo.row x hx).2.1
  refine ⟨fun q => ?_, fun q => ?_⟩
  · have := h.low B (by simp); omega
  · have := h.low x.1 (List.mem_cons_of_mem _ q); omega
theorem Stp.put (h : Stp R B b n I Ls w0 K l s m w) (k : Nat) (x : Nat × List Value) (hx : l[k]? = some x) (us : List Value) (hl : us.length = x.2.length) : Stp R B b n I Ls w0 K (l.set k (x.1, us)) s m (w.setCells x.1 0 us) := by
  obtain ⟨h1, h2⟩ := h.lower (List.mem_of_getElem? hx)
  refine ⟨h.lo.put k x hx us hl, h.ctx.only ((Only.refl [x.1] w).setCells x.1 (by simp) us 0 w) ?_ ?_, h.low, h.left⟩
  · simp; exact fun q => h1 q.symm
  · intro i hi q
    simp at q
    subst q
    exact h2 hi
theorem Stp.row (h : Stp R B b n I Ls w0 K l s m w) : RowAt w B (stepL b.s n I true 0) := h.ctx.step
theorem Stp.cell0 (h : Stp R B b n I Ls w0 K l s m w) : w.cell? ⟨B, 0, none⟩ = some (.pointer (some ⟨b.s, 0, none⟩)) := h.ctx.step.cell 0 _ rfl
theorem Stp.of {m' : Fs.M α} (h : Stp R B b n I Ls w0 K l s m w) (e : m (nv s) = m' (nv s)) : Stp R B b n I Ls w0 K l s m' w :=
  ⟨h.lo, h.ctx, h.low, fun e' w' hE => h.left e' w' (by
    unfold Ends Fails at hE ⊢
    rw [e]; exact hE)⟩
theorem Stp.saw {γ : Type} {f : Fs.View → γ} {g : γ → Fs.M α} (h : Stp R B b n I Ls w0 K l s (Fs.andThen (Fs.see f) g) w) : Stp R B b n I Ls w0 K l s (g (f (nv s))) w :=
  h.of (by rw [Fs.andThen_ok (show Fs.see f (nv s) = (.ok (f (nv s)), nv s, []) from rfl)]; rfl)
theorem Stp.told {γ : Type} {f : Fs.View → Except Int γ} {a : γ} {g : γ → Fs.M α} (h : Stp R B b n I Ls w0 K l s (Fs.andThen (Fs.tell f) g) w) (e : f (nv s) = .ok a) : Stp R B b n I Ls w0 K l s (g a) w :=
  h.of (by rw [Fs.andThen_ok (show Fs.tell f (nv s) = (.ok a, nv s, []) from by unfold Fs.tell; rw [e])]; rfl)
theorem Stp.only (h : Stp R B b n I Ls w0 K l s m w) {L' : List Nat} (ho : Only L' w w') (hL : ∀ k ∈ L', k ∈ B :: b.t :: Ls ∨ w0.heap.size ≤ k) : Only (B :: b.t :: Ls) w0 w' :=
  (h.lo.only.mono (fun _k hk => List.mem_cons_of_mem _ hk)).via ho hL
theorem Stp.bind {γ : Type} {m1 : Fs.M γ} {f : γ → Fs.M α} {K1 : γ → Ending → World → Prop} {e : Ending} (h : Stp R B b n I Ls w0 K l s (Fs.andThen m1 f) w) (hE : Ends B b n I [] w s m1 K1 e w') :
    (e = .panicked [failE B] ∧ R (.panicked [failE B]) w') ∨ ∃ a s' L, m1 (nv s) = (.ok a, nv s', L) ∧ K1 a e w' ∧ Stp R B b n I Ls w0 K l s' (f a) w' := by
  rcases hE with ⟨a, s', L, E, G, C, hK, O⟩ | ⟨er, F, h0, Br, rfl, O⟩
  · exact Or.inr ⟨a, s', L, E, hK, h.lo.call O (fun k hk => by
      rw [List.mem_singleton] at hk
      subst hk
      exact List.mem_cons_self ..), C, h.low, fun e' w'' hE => h.left e' w'' (hE.next E G)⟩
  · exact Or.inl ⟨rfl, h.left _ _ (Ends.broke F h0 Br (h.only O (fun k hk => Or.inl (by
      simp only [List.mem_cons, List.not_mem_nil, or_false] at hk ⊢
      rcases hk with rfl | rfl
      · exact Or.inl rfl
      · exact Or.inr (Or.inl rfl)))))⟩
theorem Stp.bindO {γ : Type} {m1 : Fs.M γ} {f : γ → Fs.M α} {K1 : γ → Ending → World → Prop} {e : Ending} (h : Stp R B b n I Ls w0 K l s (Fs.andThen m1 f) w) (hE : Ends B b n I [] w s m1 K1 e w') :
    (e = .panicked [failE B] ∧ R (.panicked [failE B]) w') ∨ ∃ a s' L, m1 (nv s) = (.ok a, nv s', L) ∧ K1 a e w' ∧ Stp R B b n I Ls w0 K l s' (f a) w' ∧ Only [b.t] w w' := by
  have hh := h.bind hE
  rcases hE with ⟨a, s', L, E, G, C, hK, O⟩ | ⟨er, F, h0, Br, rfl, O⟩
  · refine Or.inr ⟨a, s', L, E, hK, ⟨h.lo.call O (fun k hk => by
      rw [List.mem_singleton] at hk
      subst hk
      exact List.mem_cons_self ..), C, h.low, fun e' w'' hE => h.left e' w'' (hE.next E G)⟩, O⟩
  · rcases hh with ⟨h1, h2⟩ | ⟨a, s', L, E, hK, _⟩
    · exact Or.inl ⟨h1, h2⟩
    · exact Or.inl ⟨rfl, h.left _ _ (Ends.broke F h0 Br (h.only O (fun k hk => Or.inl (by
        simp only [List.mem_cons, List.not_mem_nil, or_false] at hk ⊢
        rcases hk with rfl | rfl
        · exact Or.inl rfl
        · exact Or.inr (Or.inl rfl)))))⟩
/-- a block of the caller's is written -/
theorem Stp.setX (h : Stp R B b n I Ls w0 K l s m w) {X : Nat} (hX : X ∈ Ls) (hB : X ≠ B) (hb : X ∉ b.all) (k : Nat) (v : Value) (hl : ∀ x ∈ l, x.1 ≠ X) : Stp R B b n I Ls w0 K l s m (w.setCell ⟨X, k, none⟩ v) := by
  have ho : Only [X] w (w.setCell ⟨X, k, none⟩ v) := (Only.refl [X] w).setCell (by simp) v
  refine ⟨h.lo.call ho (fun i hi => by rw [List.mem_singleton] at hi; subst hi; exact List.mem_cons_of_mem _ hX), h.ctx.only ho (by simpa using fun q => hB q.symm) (fun i hi q => by simp at q; subst q; exact hb hi), h.low, h.left⟩
/-- the call fails here -/
theorem Stp.fails (h : Stp R B b n I Ls w0 K l s m w) {er : Int} (F : Fails s m er) (h0 : er ≠ 0) (Br : Broke w' B b s n I er) (O : Only [B] w w') : R (.panicked [failE B]) w' :=
  h.left _ _ (Or.inr ⟨er, F, h0, Br, rfl, h.only O (fun k hk => Or.inl (by rw [List.mem_singleton] at hk; subst hk; simp))⟩)
theorem Stp.done {a : α} {e : Ending} (h : Stp R B b n I Ls w0 K l s (Fs.ret a) w) (hK : K a e w) : R e w := h.left _ _ (Ends.done h.ctx hK h.lo.only)
/-- the end of the call is the end of the last one in it -/
theorem Stp.last {K1 : α → Ending → World → Prop} {e : Ending} (h : Stp R B b n I Ls w0 K l s m w) (hE : Ends B b n I [] w s m K1 e w') : (e = .panicked [failE B] ∧ R (.panicked [failE B]) w') ∨ ∃ a s' L, m (nv s) = (.ok a, nv s', L) ∧ K1 a e w' ∧ Stp R B b n I Ls w0 K l s' (Fs.ret a) w' :=
  Stp.bind (m1 := m) (f := Fs.ret) ⟨h.lo, h.ctx, h.low, fun e' w'' hE' => h.left e' w'' (by rw [Fs.andThen_ret] at hE'; exact hE')⟩ hE
theorem Fails.err {m : Fs.M α} {er : Int} {V : Fs.View} {L : List Nat} (h : m (nv s) = (.error er, V, L)) : Fails s m er := Or.inl ⟨V, L, h⟩
end
theorem gives_all {P : Program} {m : Sem Next} {f : FuncId} {args : Array Value} {S : World → Prop} {R : Value → World → Prop} {Bp : List PanicEntry → World → Prop} (h1 : ∀ w, m.run P w = .ok (.enter f args) w)
    (h2 : ∀ w, S w → Calls P f args w fun e w'' => (∃ u, e = .returned u ∧ R u w'') ∨ (∃ ch, e = .panicked ch ∧ Bp ch w'')) : ∀ w, S w → GivesP P m w R Bp := fun w hS => givesP_call (h1 w) (h2 w hS)
/-- kinds, and one more that no world is of: behind a call that does not come back -/
def SO {σ : Type} (S : σ → World → Prop) : Option σ → World → Prop
  | none, _ => False
  | some k, W => S k W
theorem SO.all {σ : Type} {S : σ → World → Prop} {C : World → Prop} (h : ∀ k W, S k W → C W) : ∀ k W, SO S k W → C W
  | none, _, hS => hS.elim
  | some k, W, hS => h k W hS
theorem SO.some {σ : Type} {S : σ → World → Prop} {k : σ} {W : World} (h : SO S (some k) W) : S k W := h
theorem zero_box (w : World) : Lo [] w [(w.heap.size, byteVals zeros)] (w.alloc (.cells zeroCells 68)) :=
  (Lo.start w (by simp)).alloc _ rfl (byteVals zeros) _
set_option maxRecDepth 100000 in
set_option maxHeartbeats 1000000 in
theorem spage_any {w : World} {B : Nat} {b : Blk} {s : Sto} {n I : Int} (h : Ctx w B b s n I) (at1 : Int) (ha : okP n at1) : Calls Tryz.prog 87 #[.pointer (some ⟨B, 0, none⟩), .int .i64 at1] w fun e w' => e = .returned (pageV (nv s at1.toNat)) ∧ Below w.heap.size w w' := by
  have S0 := Lib.hid (zero_box w)
  obtain ⟨r1, r2, r3⟩ := h.vs.read ha
  have HR : Hid (∀ W l, Lo [] w l W → Calls Tryz.prog 76 #[.pointer (some ⟨b.s, 0, none⟩), .int .i64 at1] W fun e w' => e = .returned (.tuple #[pageV (nv s at1.toNat), .int .i64 0]) ∧ Below W.heap.size W w') := Lib.hid (fun W l hl => by
    have := sread_any (hl.store h.store) at1
    rw [r1, r2] at this
    exact this)
  have HL := Lib.hid r3
  have c0 : ∀ o, (w.alloc o).cell? ⟨B, 0, none⟩ = some (.pointer (some ⟨b.s, 0, none⟩)) := fun o => (h.step.alloc o).cell 0 _ rfl
  clear h ha r1 r2 r3
  generalize nv s at1.toNat = p at HR HL ⊢
  go_enter Tryz.func87, Tryz.ntmps87
  go_wp2_with fail
  rw [← zeroCells_def]
  generalize hw : World.alloc _ _ = w1
  have S : Hid (Lo [] w [(w.heap.size, byteVals zeros)] w1) := Lib.hid (by rw [← hw]; exact S0.out)
  clear hw S0 c0
  go_wp2_with (first
    | (go_at_call 76; refine (HR.out _ _ S.out).mono ?_; rintro e w2 ⟨rfl, hb⟩; replace S := Lib.hid (S.out.below hb); clear hb)
    | ((with_reducible refine wpList_store_new rfl (.tmp 5) (.tmp 15) rfl rfl ?_ ?_ HL.out ?_); (exact rfl); (exact rfl); intro W2 hP hB2 hz2; replace S := Lib.hid (S.out.made hP.rowAt hB2 hz2); clear hP hB2 hz2)
    | (go_at_call 85; (with_reducible refine (must_ok _).mono ?_); rintro e w3 ⟨rfl, rfl⟩)
    | (with_reducible refine wpList_load_page (S.out.page 1 rfl HL.out) rfl (.tmp 5) rfl rfl ?_)
    | ((with_reducible refine wpList_store_page (S.out.page 0 rfl zeros_length) HL.out rfl (.tmp 4) (.tmp 20) rfl rfl ?_ ?_); (exact rfl)))
  have S2 := Lib.hid (S.out.putP 0 rfl zeros_length p HL.out)
  exact bodyPost_ret (results_page _ 4 rfl _ (S2.out.page 0 rfl HL.out) rfl) rfl ⟨rfl, S2.out.bel⟩
end Go.Proofs.YtncmihikpcdgoaaGreat

namespace Go.Proofs.YtncmihikpcdgoaaGreat
open Go.RowKit Go.Maps
open Dk (zeros zeros_length)
open Ii (Ino)
theorem put_box (w : World) {p : List UInt8} : Lo [] w [(w.heap.size, byteVals p)] (w.alloc (.cells (byteVals p).toArray 68)) :=
  (Lo.start w (by simp)).alloc _ rfl (byteVals p) _
/-- ahead of the Put, and behind it -/
def StpPut (w : World) (b : Blk) (s s' : Sto) (p : List UInt8) (k : Bool) (W : World) : Prop := Lo [b.t] w [(w.heap.size, byteVals p)] W ∧ StoreAt W b (if k = true then s' else s)
theorem StpPut.cell {w W : World} {B : Nat} {b : Blk} {s s' s'' : Sto} {p : List UInt8} {k : Bool} {n I : Int} (h : StpPut w b s s' p k W) (c : Ctx w B b s'' n I) : W.cell? ⟨B, 0, none⟩ = some (.pointer (some ⟨b.s, 0, none⟩)) :=
  (c.step.block (h.1.only.block B c.lt (by simp; exact fun q => c.nb (q ▸ b.t_mem)))).cell 0 _ rfl
set_option maxRecDepth 100000 in
set_option maxHeartbeats 1000000 in
theorem sput_step {w : World} {B : Nat} {b : Blk} {s : Sto} {n I : Int} (h : Ctx w B b s n I) (at1 : Int) (p : List UInt8) (ha : okP n at1) (hp : p.length = 64) : Calls Tryz.prog 53 #[.pointer (some ⟨B, 0, none⟩), .int .i64 at1, pageV p] w (Ends B b n I [] w s (Fs.wr at1.toNat p) fun _ e _ => e = .returned (.tuple #[])) := by
  refine calls_of fun R H => ?_
  have S0 := Lib.hid (put_box w (p := p))
  have HL := Lib.hid hp
  have HC : Hid (∀ s1 s2 k W, StpPut w b s1 s2 p k W → W.cell? ⟨B, 0, none⟩ = some (.pointer (some ⟨b.s, 0, none⟩))) := Lib.hid (fun s1 s2 k W hS => hS.cell h)
  have HT := Lib.hid (h.store.lt _ b.t_mem)
  rcases h.vs.put (p := p) ha hp with ⟨e1, e2, e3, e4⟩ | ⟨e1, e2, e3⟩
  · have HP : Hid (∀ W, StpPut w b s (sput s at1 p) p false W → Calls Tryz.prog 81 #[.pointer (some ⟨b.s, 0, none⟩), .int .i64 at1, pageV p] W fun e w' => e = .returned (.int .i64 0) ∧ StpPut w b s (sput s at1 p) p true w') := Lib.hid (fun W hS => by
      have := sput_any (show StoreAt W b s from hS.2) at1 p hp
      rw [e1] at this
      exact this.mono (fun e w' hh => ⟨hh.1, hS.1.call hh.2.2 (fun k hk => hk), hh.2.1⟩))
    have HE : Hid (∀ W, StpPut w b s (sput s at1 p) p true W → R (.returned (.tuple #[])) W) := Lib.hid (fun W hS => H.out _ _ (by
      refine Or.inl ⟨(), _, _, ?_, e3, ⟨h.step.block (hS.1.only.block B h.lt (by simp; exact fun q => h.nb (q ▸ b.t_mem))), hS.2, e4, h.nb⟩, rfl, hS.1.only⟩
      rw [e2]; rfl))
    have hst := Lib.hid h.store
    clear h ha e1 e2 e3 e4 H
    go_enter Tryz.func53, Tryz.ntmps53
    go_wp2_with fail
    rename_i cs hcs
    obtain rfl : cs = (byteVals p).toArray := by unfold pageV at hcs; injection hcs with hcs; exact hcs.symm
    clear hcs
    generalize hw : World.alloc _ _ = w1
    have S : Hid (StpPut w b s (sput s at1 p) p false w1) := Lib.hid ⟨by
      rw [← hw]
      have := S0.out
      exact ⟨this.row, this.ne, this.only.mono (by simp), by simpa using HT.out⟩, by rw [if_neg (by decide), ← hw]; exact hst.out.alloc _⟩
    clear hw S0 hst
    generalize sput s at1 p = s2 at HP HE S
    refine wp_region_linp (StpPut w b s s2 p) (fun _ _ => False) (fun i => i == 8) (fun i => [.pointer (some ⟨B, 0, none⟩), .pointer (some ⟨B, 0, none⟩), .pointer (some ⟨B, 0, none⟩), .pointer (some ⟨B, 0, none⟩), .pointer (some ⟨B, 0, none⟩), .pointer (some ⟨b.s, 0, none⟩), .int .i64 at1, pageV p, .int .i64 0, .tuple #[]].getD i undef) false (by kernel_rfl) (by kernel_rfl) (fun _ _ _ _ h => h.elim) ⟨S.out.1.drew, S.out.2.drew⟩ ?_
    refine linp_step (i := 0) (d := some 6) (v := (.pointer (some ⟨B, 0, none⟩))) rfl rfl (by kernel_rfl) (by kernel_rfl) rfl rfl (ord_value (by kernel_rfl) ?_) ?_
    · ((intro _ _ _; go_simp) <;> kernel_rfl)
    try simp only [Act.put, List.setIfInBounds_toArray, List.set_cons_zero, List.set_cons_succ]
    refine linp_step (i := 1) (d := some 7) (v := (.pointer (some ⟨B, 0, none⟩))) rfl rfl (by kernel_rfl) (by kernel_rfl) rfl rfl (ord_value (by kernel_rfl) ?_) ?_
    · ((intro _ _ _; go_simp) <;> kernel_rfl)
    try simp only [Act.put, List.setIfInBounds_toArray, List.set_cons_zero, List.set_cons_succ]
    refine linp_step (i := 2) (d := some 8) (v := (.pointer (some ⟨B, 0, none⟩))) rfl rfl (by kernel_rfl) (by kernel_rfl) rfl rfl (ord_value (by kernel_rfl) ?_) ?_
    · ((intro _ _ _; go_simp) <;> kernel_rfl)
    try simp only [Act.put, List.setIfInBounds_toArray, List.set_cons_zero, List.set_cons_succ]
    refine linp_step (i := 3) (d := some 9) (v := (.pointer (some ⟨B, 0, none⟩))) rfl rfl (by kernel_rfl) (by kernel_rfl) rfl rfl (ord_value (by kernel_rfl) ?_) ?_
    · ((intro _ _ _; go_simp) <;> kernel_rfl)
    try simp only [Act.put, List.setIfInBounds_toArray, List.set_cons_zero, List.set_cons_succ]
    refine linp_step (i := 4) (d := some 10) (v := (.pointer (some ⟨B, 0, none⟩))) rfl rfl (by kernel_rfl) (by kernel_rfl) rfl rfl (ord_value (by kernel_rfl) ?_) ?_
    · ((intro _ _ _; go_simp) <;> kernel_rfl)
    try simp only [Act.put, List.setIfInBounds_toArray, List.set_cons_zero, List.set_cons_succ]
    refine linp_step (i := 5) (d := some 11) (v := (.pointer (some ⟨b.s, 0, none⟩))) rfl rfl (by kernel_rfl) (by kernel_rfl) rfl rfl (ord_value (by kernel_rfl) ?_) ?_
    · (intro sZ wZ hZ; have cZ := (fun k W hS => HC.out s s2 k W hS) sZ wZ hZ; go_simp)
    try simp only [Act.put, List.setIfInBounds_toArray, List.set_cons_zero, List.set_cons_succ]
    refine linp_step (i := 6) (d := some 12) (v := (.int .i64 at1)) rfl rfl (by kernel_rfl) (by kernel_rfl) rfl rfl (ord_value (by kernel_rfl) ?_) ?_
    · ((intro _ _ _; go_simp) <;> kernel_rfl)
    try simp only [Act.put, List.setIfInBounds_toArray, List.set_cons_zero, List.set_cons_succ]
    refine linp_step (i := 7) (d := some 13) (v := (pageV p)) rfl rfl (by kernel_rfl) (by kernel_rfl) rfl rfl (ord_page (by kernel_rfl) (.tmp 5) rfl rfl (fun k W hS => hS.1.page 0 rfl HL.out)) ?_
    try simp only [Act.put, List.setIfInBounds_toArray, List.set_cons_zero, List.set_cons_succ]
    refine linp_turn (i := 8) (d := some 14) (fun u k => u = .int .i64 0 ∧ k = true) rfl rfl (by kernel_rfl) (by kernel_rfl) rfl (by kernel_rfl) ⟨_, _, rfl, rfl⟩ (by kernel_rfl) (gives_all (f := 81) (args := #[.pointer (some ⟨b.s, 0, none⟩), .int .i64 at1, pageV p]) ?_ (fun W hS => (HP.out W hS).mono fun e w' hh => Or.inl ⟨_, hh.1, true, ⟨rfl, rfl⟩, hh.2⟩)) ?_
    · (intro _; go_simp)
    rintro _ _ ⟨rfl, rfl⟩
    try simp only [Act.put, List.setIfInBounds_toArray, List.set_cons_zero, List.set_cons_succ]
    refine linp_step (i := 9) (d := some 15) (v := (.tuple #[])) rfl rfl (by kernel_rfl) (by kernel_rfl) rfl rfl (ord_call (f := 85) (args := #[.pointer (some ⟨B, 0, none⟩), .int .i64 0]) (by kernel_rfl) ?_ (fun k W hS => (must_ok B).mono fun e w' hh => ⟨hh.1, hh.2 ▸ hS⟩)) ?_
    · (intro _; go_simp)
    try simp only [Act.put, List.setIfInBounds_toArray, List.set_cons_zero, List.set_cons_succ]
    refine linp_done (by kernel_rfl) fun W hS => ?_
    go_wp2
    go_end0
    exact HE.out _ hS
  · have HP : Hid (∀ W, StpPut w b s s p false W → Calls Tryz.prog 81 #[.pointer (some ⟨b.s, 0, none⟩), .int .i64 at1, pageV p] W fun e w' => e = .returned (.int .i64 28) ∧ StpPut w b s s p true w') := Lib.hid (fun W hS => by
      have := sput_any (show StoreAt W b s from hS.2) at1 p hp
      rw [e1, e2] at this
      exact this.mono (fun e w' hh => ⟨hh.1, hS.1.call hh.2.2 (fun k hk => hk), hh.2.1⟩))
    have HE : Hid (∀ W, StpPut w b s s p true W → Calls Tryz.prog 85 #[.pointer (some ⟨B, 0, none⟩), .int .i64 28] W fun e w' => e = .panicked [failE B] ∧ R (.panicked [failE B]) w') := Lib.hid (fun W hS => by
      have C : Ctx W B b s n I := ⟨h.step.block (hS.1.only.block B h.lt (by simp; exact fun q => h.nb (q ▸ b.t_mem))), hS.2, h.vs, h.nb⟩
      refine (must_no C 28 (by decide)).mono fun e w' hh => ⟨hh.1, H.out _ _ (Or.inr ⟨28, Or.inr ⟨rfl, e3⟩, by decide, hh.2.1, rfl, ?_⟩)⟩
      exact (hS.1.only.mono (fun k hk => by simp at hk ⊢; exact Or.inr hk)).via hh.2.2 (fun i hi => Or.inl (by simp at hi ⊢; exact Or.inl hi)))
    have hst := Lib.hid h.store
    clear h ha e1 e2 e3 H
    go_enter Tryz.func53, Tryz.ntmps53
    go_wp2_with fail
    rename_i cs hcs
    obtain rfl : cs = (byteVals p).toArray := by unfold pageV at hcs; injection hcs with hcs; exact hcs.symm
    clear hcs
    generalize hw : World.alloc _ _ = w1
    have S : Hid (StpPut w b s s p false w1) := Lib.hid ⟨by
      rw [← hw]
      have := S0.out
      exact ⟨this.row, this.ne, this.only.mono (by simp), by simpa using HT.out⟩, by rw [if_neg (by decide), ← hw]; exact hst.out.alloc _⟩
    clear hw S0 hst
    refine wp_region_linp (SO (StpPut w b s s p)) (fun ch W => ch = [failE B] ∧ R (.panicked [failE B]) W) (fun i => i == 8 || i == 9) (fun i => [.pointer (some ⟨B, 0, none⟩), .pointer (some ⟨B, 0, none⟩), .pointer (some ⟨B, 0, none⟩), .pointer (some ⟨B, 0, none⟩), .pointer (some ⟨B, 0, none⟩), .pointer (some ⟨b.s, 0, none⟩), .int .i64 at1, pageV p].getD i undef) (some false) (by kernel_rfl) (by kernel_rfl) (fun ch a' W hd hh => ?_) ⟨S.out.1.drew, S.out.2.drew⟩ ?_
    · exact ⟨hd, by obtain ⟨rfl, hR⟩ := hh; exact hR⟩
    refine linp_step (i := 0) (d := some 6) (v := (.pointer (some ⟨B, 0, none⟩))) rfl rfl (by kernel_rfl) (by kernel_rfl) rfl rfl (ord_value (by kernel_rfl) ?_) ?_
    · ((intro _ _ _; go_simp) <;> kernel_rfl)
    try simp only [Act.put, List.setIfInBounds_toArray, List.set_cons_zero, List.set_cons_succ]
    refine linp_step (i := 1) (d := some 7) (v := (.pointer (some ⟨B, 0, none⟩))) rfl rfl (by kernel_rfl) (by kernel_rfl) rfl rfl (ord_value (by kernel_rfl) ?_) ?_
    · ((intro _ _ _; go_simp) <;> kernel_rfl)
    try simp only [Act.put, List.setIfInBounds_toArray, List.set_cons_zero, List.set_cons_succ]
    refine linp_step (i := 2) (d := some 8) (v := (.pointer (some ⟨B, 0, none⟩))) rfl rfl (by kernel_rfl) (by kernel_rfl) rfl rfl (ord_value (by kernel_rfl) ?_) ?_
    · ((intro _ _ _; go_simp) <;> kernel_rfl)
    try simp only [Act.put, List.setIfInBounds_toArray, List.set_cons_zero, List.set_cons_succ]
    refine linp_step (i := 3) (d := some 9) (v := (.pointer (some ⟨B, 0, none⟩))) rfl rfl (by kernel_rfl) (by kernel_rfl) rfl rfl (ord_value (by kernel_rfl) ?_) ?_
    · ((intro _ _ _; go_simp) <;> kernel_rfl)
    try simp only [Act.put, List.setIfInBounds_toArray, List.set_cons_zero, List.set_cons_succ]
    refine linp_step (i := 4) (d := some 10) (v := (.pointer (some ⟨B, 0, none⟩))) rfl rfl (by kernel_rfl) (by kernel_rfl) rfl rfl (ord_value (by kernel_rfl) ?_) ?_
    · ((intro _ _ _; go_simp) <;> kernel_rfl)
    try simp only [Act.put, List.setIfInBounds_toArray, List.set_cons_zero, List.set_cons_succ]
    refine linp_step (i := 5) (d := some 11) (v := (.pointer (some ⟨b.s, 0, none⟩))) rfl rfl (by kernel_rfl) (by kernel_rfl) rfl rfl (ord_value (by kernel_rfl) ?_) ?_
    · (intro sZ wZ hZ; have cZ := (SO.all (fun k W hS => HC.out s s k W hS)) sZ wZ hZ; go_simp)
    try simp only [Act.put, List.setIfInBounds_toArray, List.set_cons_zero, List.set_cons_succ]
    refine linp_step (i := 6) (d := some 12) (v := (.int .i64 at1)) rfl rfl (by kernel_rfl) (by kernel_rfl) rfl rfl (ord_value (by kernel_rfl) ?_) ?_
    · ((intro _ _ _; go_simp) <;> kernel_rfl)
    try simp only [Act.put, List.setIfInBounds_toArray, List.set_cons_zero, List.set_cons_succ]
    refine linp_step (i := 7) (d := some 13) (v := (pageV p)) rfl rfl (by kernel_rfl) (by kernel_rfl) rfl rfl (ord_page (by kernel_rfl) (.tmp 5) rfl rfl (SO.all (fun k W hS => hS.1.page 0 rfl HL.out))) ?_
    try simp only [Act.put, List.setIfInBounds_toArray, List.set_cons_zero, List.set_cons_succ]
    refine linp_turn (i := 8) (d := some 14) (fun u k => u = .int .i64 28 ∧ k = some true) rfl rfl (by kernel_rfl) (by kernel_rfl) rfl (by kernel_rfl) ⟨_, _, rfl, rfl⟩ (by kernel_rfl) (gives_all (f := 81) (args := #[.pointer (some ⟨b.s, 0, none⟩), .int .i64 at1, pageV p]) ?_ (fun W hS => (HP.out W hS).mono fun e w' hh => Or.inl ⟨_, hh.1, some true, ⟨rfl, rfl⟩, hh.2⟩)) ?_
    · (intro _; go_simp)
    rintro _ _ ⟨rfl, rfl⟩
    try simp only [Act.put, List.setIfInBounds_toArray, List.set_cons_zero, List.set_cons_succ]
    refine linp_turn (i := 9) (d := some 15) (fun _ k => k = none) rfl rfl (by kernel_rfl) (by kernel_rfl) rfl (by kernel_rfl) ⟨undef, _, rfl⟩ (by kernel_rfl) (gives_all (f := 85) (args := #[.pointer (some ⟨B, 0, none⟩), .int .i64 28]) ?_ (fun W hS => (HE.out W hS).mono fun e w' hh => Or.inr ⟨_, hh.1, rfl, hh.2⟩)) ?_
    · (intro _; go_simp)
    rintro _ _ rfl
    exact linp_done (by kernel_rfl) fun W hS => hS.elim
end Go.Proofs.YtncmihikpcdgoaaGreat

namespace Go.Proofs.YtncmihikpcdgoaaGreat
open Go.RowKit Go.Maps
open Dk (zeros zeros_length)
open Ii (Ino)
section
variable {α : Type} {B : Nat} {b : Blk} {n I : Int} {Ls : List Nat} {w w1 w' : World} {K : α → Ending → World → Prop} {s : Sto} {e : Ending}
theorem Ends.told {f : Fs.View → Except Int α} {a : α} (E : f (nv s) = .ok a) (C : Ctx w B b s n I) (hb : Below w.heap.size w w') (hK : K a e w') : Ends B b n I Ls w s (Fs.tell f) K e w' :=
  Or.inl ⟨a, s, [], by unfold Fs.tell; rw [E], Goes.refl s, C.below hb, hK, Only.below hb⟩
theorem Ends.untold {f : Fs.View → Except Int α} {er : Int} (E : f (nv s) = .error er) (h0 : er ≠ 0) (hb : Below w.heap.size w w1) (Br : Broke w' B b s n I er) (O : Only [B] w1 w') : Ends B b n I Ls w s (Fs.tell f) K (.panicked [failE B]) w' :=
  Or.inr ⟨er, Or.inl ⟨nv s, [], by unfold Fs.tell; rw [E]⟩, h0, Br, rfl, (show Only (B :: b.t :: Ls) w w1 from Only.below hb).via O (fun i hi => Or.inl (by simp at hi ⊢; exact Or.inl hi))⟩
theorem Ends.later {m : Fs.M α} {w0 : World} (hl : Only (b.t :: Ls) w0 w) (h : Ends B b n I Ls w s m K e w') : Ends B b n I Ls w0 s m K e w' := by
  rcases h with ⟨a, s', L, E, G, C, hK, O⟩ | ⟨er, F, h0, Br, he, O⟩
  · exact Or.inl ⟨a, s', L, E, G, C, hK, hl.via O (fun i hi => Or.inl hi)⟩
  · exact Or.inr ⟨er, F, h0, Br, he, (hl.mono (fun k hk => List.mem_cons_of_mem _ hk)).via O (fun i hi => Or.inl hi)⟩
theorem Ends.same {m m' : Fs.M α} (hm : m (nv s) = m' (nv s)) (h : Ends B b n I Ls w s m' K e w') : Ends B b n I Ls w s m K e w' := by
  unfold Ends Fails at h ⊢
  rw [hm]; exact h
/-- a call without a result that is the last one -/
theorem Ends.unit {R : Ending → World → Prop} {m : Fs.M Unit} (H : Hid (∀ e w', Ends B b n I [] w s m (fun _ e _ => e = .returned (.tuple #[])) e w' → R e w')) (h : Ends B b n I [] w s m (fun _ e _ => e = .returned (.tuple #[])) e w') :
    (e = .panicked [failE B] ∧ R (.panicked [failE B]) w') ∨ (e = .returned (.tuple #[]) ∧ R (.returned (.tuple #[])) w') := by
  have hR := H.out e w' h
  rcases h with ⟨a, s', L, E, G, C, rfl, O⟩ | ⟨er, F, h0, Br, rfl, O⟩
  · exact Or.inr ⟨rfl, hR⟩
  · exact Or.inl ⟨rfl, hR⟩
end
theorem ino_box (w : World) : Lo [] w [(w.heap.size, inoL Ii.zero)] (w.alloc (.cells (inoL Ii.zero).toArray 31)) :=
  (Lo.start w (by simp)).alloc _ rfl (inoL Ii.zero) _
set_option maxRecDepth 100000 in
set_option maxHeartbeats 1000000 in
theorem smustTaken_any {w : World} {B : Nat} {b : Blk} {s : Sto} {n I : Int} (h : Ctx w B b s n I) (i : Int) : Calls Tryz.prog 49 #[.pointer (some ⟨B, 0, none⟩), .int .i64 i] w (Ends B b n I [] w s (Fs.tell (Fs.takenF I i)) fun x e _ => e = .returned (inoV x)) := by
  refine calls_of fun R H => ?_
  have S := Lib.hid (ino_box w)
  have HB : Hid (∀ W l, Lo [] w l W → W.rangeAt B 0 (baseL b.s n I)) := Lib.hid (fun W l hl => (Lo.ctx (L := []) hl h).step.base)
  have HC := Lib.hid h
  rcases taken_or I i (nv s) with hx | ⟨x, hx⟩
  · have HT : Hid (∀ W l, Lo [] w l W → Calls Tryz.prog 91 #[baseV b.s n I, .int .i64 i] W fun e w' => e = .returned (.tuple #[inoV Ii.zero, .int .i64 22]) ∧ Below W.heap.size W w') := Lib.hid (fun W l hl => btaken_no (hl.store h.store) h.vs i hx)
    have HM : Hid (∀ W l, Lo [] w l W → Calls Tryz.prog 85 #[.pointer (some ⟨B, 0, none⟩), .int .i64 22] W fun e w' => e = .panicked [failE B] ∧ R (.panicked [failE B]) w') := Lib.hid (fun W l hl => (must_no (Lo.ctx (L := []) hl h) 22 (by decide)).mono fun e w' hh => ⟨hh.1, H.out _ _ (Ends.untold hx (by decide) hl.bel hh.2.1 hh.2.2)⟩)
    clear h hx H
    go_enter Tryz.func49, Tryz.ntmps49
    go_wp2_with (first
      | (with_reducible refine wpList_load_base (HB.out _ _ S.out) rfl (.tmp 10) rfl rfl ?_)
      | (go_at_call 91; refine (HT.out _ _ S.out).mono ?_; rintro e w1 ⟨rfl, hb⟩; replace S := Lib.hid (S.out.below hb); clear hb)
      | ((with_reducible refine wpList_store_newrow (vs := inoL Ii.zero) inoT ?_ (inoL_one _) rfl (.tmp 5) (.tmp 14) rfl rfl ?_ ?_ ?_); (exact rfl); (exact rfl); (exact rfl); intro W4 hP hB2 hz2; replace S := Lib.hid (S.out.made hP hB2 hz2); clear hP hB2 hz2)
      | (go_at_call 85; refine (HM.out _ _ S.out).mono ?_; rintro e w1 ⟨rfl, hR⟩))
    exact ⟨rfl, hR⟩
  · have HT : Hid (∀ W l, Lo [] w l W → Calls Tryz.prog 91 #[baseV b.s n I, .int .i64 i] W fun e w' => e = .returned (.tuple #[inoV x, .int .i64 0]) ∧ Below W.heap.size W w') := Lib.hid (fun W l hl => btaken_yes (hl.store h.store) h.vs i hx)
    have HE : Hid (∀ W l, Lo [] w l W → R (.returned (inoV x)) W) := Lib.hid (fun W l hl => H.out _ _ (Ends.told hx h hl.bel rfl))
    clear h hx H
    go_enter Tryz.func49, Tryz.ntmps49
    go_wp2_with (first
      | (with_reducible refine wpList_load_base (HB.out _ _ S.out) rfl (.tmp 10) rfl rfl ?_)
      | (go_at_call 91; refine (HT.out _ _ S.out).mono ?_; rintro e w1 ⟨rfl, hb⟩; replace S := Lib.hid (S.out.below hb); clear hb)
      | ((with_reducible refine wpList_store_newrow (vs := inoL x) inoT ?_ (inoL_one _) rfl (.tmp 5) (.tmp 14) rfl rfl ?_ ?_ ?_); (exact rfl); (exact rfl); (exact rfl); intro W4 hP hB2 hz2; replace S := Lib.hid (S.out.made hP hB2 hz2); clear hP hB2 hz2)
      | (go_at_call 85; (with_reducible refine (must_ok _).mono ?_); rintro e w1 ⟨rfl, rfl⟩)
      | (with_reducible refine wpList_load_rw inoT (S.out.get 1 _ rfl) rfl rfl (.tmp 5) rfl rfl ?_)
      | ((with_reducible refine wpList_store_rw (vs := inoL x) inoT (S.out.get 0 _ rfl) ?_ ?_ (inoL_one _) rfl (.tmp 4) (.tmp 19) rfl ?_ ?_ ?_); (exact rfl); (exact rfl); (exact rfl); (exact rfl)))
    have S2 := Lib.hid (S.out.put 0 _ rfl (inoL x) rfl)
    exact bodyPost_ret (results_row1 inoT _ 4 rfl _ (S2.out.get 0 _ rfl) rfl rfl) rfl (HE.out _ _ S2.out)
theorem dat_box (w : World) : Lo [] w [(w.heap.size, byteVals zeros)] (w.alloc (.cells zeroCells 68)) :=
  (Lo.start w (by simp)).alloc _ rfl (byteVals zeros) _
set_option maxRecDepth 100000 in
set_option maxHeartbeats 1000000 in
theorem smustData_any {w : World} {B : Nat} {b : Blk} {s : Sto} {n I : Int} (h : Ctx w B b s n I) (m : Int) : Calls Tryz.prog 55 #[.pointer (some ⟨B, 0, none⟩), .int .i64 m] w (Ends B b n I [] w s (Fs.tell (Fs.dataF n I m)) fun p e _ => e = .returned (pageV p)) := by
  refine calls_of fun R H => ?_
  have S0 := Lib.hid (dat_box w)
  have HB : Hid (∀ W l, Lo [] w l W → W.rangeAt B 0 (baseL b.s n I)) := Lib.hid (fun W l hl => (Lo.ctx (L := []) hl h).step.base)
  have HD : Hid (∀ W l, Lo [] w l W → Calls Tryz.prog 98 #[baseV b.s n I, .int .i64 m] W fun e w' => e = .returned (exV pageV (pageV zeros) (Fs.dataF n I m (nv s))) ∧ Below W.heap.size W w') := Lib.hid (fun W l hl => bdata_any (hl.store h.store) h.vs m)
  cases hd : Fs.dataF n I m (nv s) with
  | error er =>
    obtain rfl := data_err hd
    rw [hd] at HD
    simp only [exV] at HD
    have HM : Hid (∀ W l, Lo [] w l W → Calls Tryz.prog 85 #[.pointer (some ⟨B, 0, none⟩), .int .i64 5] W fun e w' => e = .panicked [failE B] ∧ R (.panicked [failE B]) w') := Lib.hid (fun W l hl => (must_no (Lo.ctx (L := []) hl h) 5 (by decide)).mono fun e w' hh => ⟨hh.1, H.out _ _ (Ends.untold hd (by decide) hl.bel hh.2.1 hh.2.2)⟩)
    have c0 : ∀ o, (w.alloc o).rangeAt B 0 (baseL b.s n I) := fun o => ((h.step.alloc o).base)
    clear h hd H
    go_enter Tryz.func55, Tryz.ntmps55
    go_wp2_with (with_reducible refine wpList_load_base (c0 _) rfl (.tmp 10) rfl rfl ?_)
    rw [← zeroCells_def]
    generalize hw : World.alloc _ _ = w1
    have S : Hid (Lo [] w [(w.heap.size, byteVals zeros)] w1) := Lib.hid (by rw [← hw]; exact S0.out)
    clear hw S0 c0
    go_wp2_with (first
      | (go_at_call 98; refine (HD.out _ _ S.out).mono ?_; rintro e w1 ⟨rfl, hb⟩; replace S := Lib.hid (S.out.below hb); clear hb)
      | ((with_reducible refine wpList_store_new rfl (.tmp 5) (.tmp 14) rfl rfl ?_ ?_ zeros_length ?_); (exact rfl); (exact rfl); intro W2 hP hB2 hz2; replace S := Lib.hid (S.out.made hP.rowAt hB2 hz2); clear hP hB2 hz2)
      | (go_at_call 85; refine (HM.out _ _ S.out).mono ?_; rintro e w1 ⟨rfl, hR⟩))
    exact ⟨rfl, hR⟩
  | ok p =>
    have HL := Lib.hid (data_len h.vs hd)
    rw [hd] at HD
    simp only [exV] at HD
    have HE : Hid (∀ W l, Lo [] w l W → R (.returned (pageV p)) W) := Lib.hid (fun W l hl => H.out _ _ (Ends.told hd h hl.bel rfl))
    have c0 : ∀ o, (w.alloc o).rangeAt B 0 (baseL b.s n I) := fun o => ((h.step.alloc o).base)
    clear h hd H
    go_enter Tryz.func55, Tryz.ntmps55
    go_wp2_with (with_reducible refine wpList_load_base (c0 _) rfl (.tmp 10) rfl rfl ?_)
    rw [← zeroCells_def]
    generalize hw : World.alloc _ _ = w1
    have S : Hid (Lo [] w [(w.heap.size, byteVals zeros)] w1) := Lib.hid (by rw [← hw]; exact S0.out)
    clear hw S0 c0
    go_wp2_with (first
      | (go_at_call 98; refine (HD.out _ _ S.out).mono ?_; rintro e w1 ⟨rfl, hb⟩; replace S := Lib.hid (S.out.below hb); clear hb)
      | ((with_reducible refine wpList_store_new rfl (.tmp 5) (.tmp 14) rfl rfl ?_ ?_ HL.out ?_); (exact rfl); (exact rfl); intro W2 hP hB2 hz2; replace S := Lib.hid (S.out.made hP.rowAt hB2 hz2); clear hP hB2 hz2)
      | (go_at_call 85; (with_reducible refine (must_ok _).mono ?_); rintro e w1 ⟨rfl, rfl⟩)
      | (with_reducible refine wpList_load_page (S.out.page 1 rfl HL.out) rfl (.tmp 5) rfl rfl ?_)
      | ((with_reducible refine wpList_store_page (S.out.page 0 rfl zeros_length) HL.out rfl (.tmp 4) (.tmp 19) rfl rfl ?_ ?_); (exact rfl)))
    have S2 := Lib.hid (S.out.putP 0 rfl zeros_length p HL.out)
    exact bodyPost_ret (results_page _ 4 rfl _ (S2.out.page 0 rfl HL.out) rfl) rfl (HE.out _ _ S2.out)
end Go.Proofs.YtncmihikpcdgoaaGreat
