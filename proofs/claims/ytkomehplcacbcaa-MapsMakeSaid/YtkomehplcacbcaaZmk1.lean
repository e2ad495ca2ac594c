/-
  The walk of MapsMake: arguments that are too many, specs that can't be, no spec at all.
-/
import Derived.Test.YtkomehplcacbcaaZinv
import Derived.BigQuiet
namespace Go.Proofs.Ytkomehplcacbcaa
open Go.ChangeShapes Go.WideShapes Go.ChangeAt Go.RowKit Go.Maps

/-- ints that lie in a slice -/
structure IntsAt (w : World) (A : Option Addr) (n : Nat) (ks : List Int) : Prop where
  len : ks.length = n
  rows : ManyAt w A 1 (ks.map fun (k : Int) => [Value.int .i64 k])
theorem IntsAt.step {w w' : World} {A : Option Addr} {n : Nat} {ks : List Int} (h : IntsAt w A n ks) (hb : Below w.heap.size w w') : IntsAt w' A n ks := ⟨h.len, h.rows.step hb⟩
theorem IntsAt.get {w : World} {A : Option Addr} {n : Nat} {ks : List Int} (h : IntsAt w A n ks) (i : Nat) (hi : i < n) : ∃ b off k, A = some ⟨b, off, none⟩ ∧ b < w.heap.size ∧ ks[i]? = some k ∧ w.cell? ⟨b, off + i, none⟩ = some (.int .i64 k) := by
  obtain ⟨b, off, e, hb, hc⟩ := h.rows.cells (by rw [List.length_map, h.len]; omega)
  have hx : ks[i]? = some (ks[i]'(by rw [h.len]; exact hi)) := List.getElem?_eq_getElem _
  have := hc i _ (by rw [List.getElem?_map, hx]; rfl) 0 _ rfl
  rw [Nat.mul_one, Nat.add_zero] at this
  exact ⟨b, off, _, e, hb, hx, this⟩
theorem open_ints1 {H : Type} {enc : TypeId × Value → H} {W : World} {base : Nat} {v : Value} {d : DataW H} {p : List MemPlace} (hv : Value.okWide Try.prog W .any base 23 v)
    (h : DataW.Trod enc Try.prog W 0 (fun _ => true) true 23 v d p) : ∃ A n c ks, v = .slice A n c ∧ (n ≤ c ∧ c ≤ maxLen) ∧ IntsAt W A n ks := by
  obtain ⟨A, n, c, rs, rfl, hl, hm, hg, hr⟩ := open_many (z := 1) (by decide) Try.underlying23 cellsI (fun cs => ∃ k : Int, cs = [.int .i64 k]) (fun m k cs x ht => by
    obtain ⟨v, hv, _, hw⟩ := DataW.trod_int Try.underlying3 ht
    exact ⟨v, hv⟩) (fun cs ⟨q, he⟩ => by rw [he]; rfl) hv h
  have : ∀ rs : List (List Value), (∀ r ∈ rs, ∃ k : Int, r = [.int .i64 k]) → ∃ ks : List Int, rs = ks.map fun (k : Int) => [Value.int .i64 k] := by
    intro rs
    induction rs with
    | nil => intro _; exact ⟨[], rfl⟩
    | cons r t ih =>
      intro hr
      obtain ⟨q, e⟩ := hr r (List.mem_cons_self ..)
      obtain ⟨ps, e2⟩ := ih (fun x hx => hr x (List.mem_cons_of_mem _ hx))
      exact ⟨q :: ps, by rw [e, e2]; rfl⟩
  obtain ⟨ks, e⟩ := this rs hg
  exact ⟨A, n, c, ks, rfl, hm, by rw [← hl, e, List.length_map], e ▸ hr⟩
set_option maxRecDepth 100000 in
set_option maxHeartbeats 2000000 in
theorem mk_long (A : Option Addr) (n c : Nat) (KA : Option Addr) (m kc : Nat) (w : World) (hm : 20 < n ∨ 40 < m) : Calls Try.prog 3 #[.slice A n c, .slice KA m kc] w fun e w' => e = .returned (.bool true) ∧ Below w.heap.size w w' := by
  by_cases h1 : 20 < n
  · have h1i : (20 : Int) < (n : Int) := by omega
    clear hm h1
    go_enter Try.func3, Try.ntmps3
    go_wp2_with (go_at_call 6; refine (awake_any _).mono ?_; rintro e w1 ⟨rfl, hb⟩; have B := Lib.hid hb; clear hb)
    refine bodyPost_ret (results_tmp rfl _ _ _) rfl ⟨rfl, B.out⟩
  · have h1i : ¬ ((20 : Int) < (n : Int)) := by omega
    have h1d : decide ((20 : Int) < (n : Int)) = false := decide_eq_false h1i
    have h2i : (40 : Int) < (m : Int) := by omega
    clear hm h1
    go_enter Try.func3, Try.ntmps3
    go_wp2_with (go_at_call 6; refine (awake_any _).mono ?_; rintro e w1 ⟨rfl, hb⟩; have B := Lib.hid hb; clear hb)
    refine bodyPost_ret (results_tmp rfl _ _ _) rfl ⟨rfl, B.out⟩
theorem take_all {xs : List (Int × Int)} {k : Nat} {x : Int × Int} (h : xs[k]? = some x) : (xs.take (k + 1)).all goodSp = ((xs.take k).all goodSp && goodSp x) := by
  obtain ⟨hk, e⟩ := List.getElem?_eq_some_iff.1 h
  rw [List.take_succ_eq_append_getElem hk, List.all_append, e]
  simp
set_option maxRecDepth 100000 in
set_option maxHeartbeats 4000000 in
theorem mk_bad (A : Option Addr) (n c : Nat) (xs : List (Int × Int)) (KA : Option Addr) (m kc : Nat) (ks : List Int) (w : World) (h : SpecsAt w A n xs) (hk : IntsAt w KA m ks) (hn : n ≤ 20) (hm : m ≤ 40) (hbad : ¬ (n ≤ 4 ∧ xs.all goodSp = true)) : Calls Try.prog 3 #[.slice A n c, .slice KA m kc] w fun e w' => e = .returned (.bool true) ∧ Below w.heap.size w w' := by
  have H0 := Lib.hid h
  have HL := Lib.hid h.len
  have h1i : ¬ ((20 : Int) < (n : Int)) := by omega
  have h1d : decide ((20 : Int) < (n : Int)) = false := decide_eq_false h1i
  have h2i : ¬ ((40 : Int) < (m : Int)) := by omega
  have HBAD := Lib.hid hbad
  obtain ⟨q4, hq4⟩ : ∃ q4, q4 = decide (n ≤ 4) := ⟨_, rfl⟩
  have HQ4 : Hid (decide ((n : Int) ≤ 4) = q4) := Lib.hid (by rw [hq4]; exact decide_eq_decide.2 (by omega))
  have HQ := Lib.hid hq4
  have hd4 : decide ((n : Int) ≤ 4) = q4 := HQ4.out
  have HMK := Lib.hid (fun w h => make_any A n c w.heap.size xs w h rfl)
  have HNW := Lib.hid (fun x w h => rnew_spec x w h)
  have HNB := Lib.hid (fun x w h => rnew_bad x w h)
  have hn5 : n ≤ 1000 := by omega
  clear h hk hbad hq4 hn
  go_enter Try.func3, Try.ntmps3
  go_upto_region 7 with (first
    | (go_at_call 6; refine (awake_any _).mono ?_; rintro e w1 ⟨rfl, hb⟩; have B := Lib.hid hb; clear hb)
    | (go_at_call 7; refine (HMK.out _ (H0.out.step B.out)).mono ?_; intro e w2 hg; unfold MakeGive at hg; rw [if_neg HBAD.out] at hg; obtain ⟨rfl, hb⟩ := hg; replace B := Lib.hid (B.out.trans (hb.mono B.out.size)); clear hb))
  go_wp2_with fail
  go_loopw [7, 9, 38] (fun o _ i wr => ∃ (k : Nat) (q : Bool), k ≤ n ∧ i = .int .i64 (k : Int) ∧ o = .bool q ∧ Hid (q = (q4 && (xs.take k).all goodSp)) ∧ Hid (Below w.heap.size w wr)) (fun _ _ i _ => n - (intOf i).toNat)
  case atStart => exact ⟨0, q4, Nat.zero_le _, rfl, rfl, Lib.hid (by simp), B⟩
  case round =>
    clear B
    obtain ⟨k, q, hkn, rfl, rfl, HK, B⟩ := hrel
    rename World => wo
    by_cases hlt : k < n
    · obtain ⟨b, off, x, hA, hb, hx, hc⟩ := (H0.out.step (B.out)).get k hlt
      subst hA
      have HC := Lib.hid hc
      have HT := Lib.hid (take_all hx)
      have hk0 : (0 : Int) ≤ (k : Int) := by omega
      have hk1 : (k : Int) < (n : Int) := by omega
      clear hx hc hb
      cases q with
      | false =>
        have HK2 : Hid (false = (q4 && (xs.take (k + 1)).all goodSp)) := Lib.hid (by rw [HT.out, ← Bool.and_assoc, ← HK.out]; rfl)
        go_wp2_with (first
          | ((with_reducible refine wpList_load_at spT HC.out rfl rfl (.tmp 40) rfl ?_ ?_); (exact rfl))
          | ((with_reducible refine wpList_store_newrow spT (vs := spL x) rfl (spL_one _) rfl (.tmp 9) (.tmp 41) rfl rfl ?_ ?_ ?_); (exact rfl); (exact rfl); intro W4 hP hb hz; have hkc := hP.cell 0 _ rfl; have hrc := hP.cell 1 _ rfl; replace B := Lib.hid (B.out.trans (hb.mono B.out.size)); clear hP hb hz; generalize wo.heap.size = G at hkc hrc ⊢))
        go_roundw
        case rel => exact ⟨k + 1, false, by omega, by go_num, rfl, HK2, B⟩
        case measure => (simp [intOf] <;> omega)
      | true =>
        cases hg : goodSp x with
        | true =>
          have HG := Lib.hid hg
          have HK2 : Hid (true = (q4 && (xs.take (k + 1)).all goodSp)) := Lib.hid (by rw [HT.out, ← Bool.and_assoc, ← HK.out, HG.out]; rfl)
          clear hg
          go_wp2_with (first
            | ((with_reducible refine wpList_load_at spT HC.out rfl rfl (.tmp 40) rfl ?_ ?_); (exact rfl))
            | ((with_reducible refine wpList_store_newrow spT (vs := spL x) rfl (spL_one _) rfl (.tmp 9) (.tmp 41) rfl rfl ?_ ?_ ?_); (exact rfl); (exact rfl); intro W4 hP hb hz; have hkc := hP.cell 0 _ rfl; have hrc := hP.cell 1 _ rfl; replace B := Lib.hid (B.out.trans (hb.mono B.out.size)); clear hP hb hz; generalize wo.heap.size = G at hkc hrc ⊢)
            | (go_at_call 8; refine (HNW.out x W4 HG.out).mono ?_; rintro e w5 ⟨rfl, _, hb⟩; replace B := Lib.hid (B.out.trans (hb.mono B.out.size)); clear hb))
          go_roundw
          case rel => exact ⟨k + 1, true, by omega, by go_num, rfl, HK2, B⟩
          case measure => (simp [intOf] <;> omega)
        | false =>
          have HG := Lib.hid hg
          have HK2 : Hid (false = (q4 && (xs.take (k + 1)).all goodSp)) := Lib.hid (by rw [HT.out, ← Bool.and_assoc, ← HK.out, HG.out]; rfl)
          clear hg
          go_wp2_with (first
            | ((with_reducible refine wpList_load_at spT HC.out rfl rfl (.tmp 40) rfl ?_ ?_); (exact rfl))
            | ((with_reducible refine wpList_store_newrow spT (vs := spL x) rfl (spL_one _) rfl (.tmp 9) (.tmp 41) rfl rfl ?_ ?_ ?_); (exact rfl); (exact rfl); intro W4 hP hb hz; have hkc := hP.cell 0 _ rfl; have hrc := hP.cell 1 _ rfl; replace B := Lib.hid (B.out.trans (hb.mono B.out.size)); clear hP hb hz; generalize wo.heap.size = G at hkc hrc ⊢)
            | (go_at_call 8; refine (HNB.out x W4 HG.out).mono ?_; rintro e w5 ⟨rfl, hb⟩; replace B := Lib.hid (B.out.trans (hb.mono B.out.size)); clear hb))
          go_roundw
          case rel => exact ⟨k + 1, false, by omega, by go_num, rfl, HK2, B⟩
          case measure => (simp [intOf] <;> omega)
    · obtain rfl : k = n := by omega
      have hqf : q = false := by
        rw [HK.out, List.take_of_length_le (by rw [HL.out]; exact Nat.le_refl _), HQ.out]
        cases hA : xs.all goodSp with
        | false => simp
        | true =>
          have : ¬ k ≤ 4 := fun h4 => HBAD.out ⟨h4, hA⟩
          simp [this]
      subst hqf
      clear hlt
      go_wp2
      refine bodyPost_ret (results_tmp rfl _ _ _) rfl ⟨rfl, B.out⟩
end Go.Proofs.Ytkomehplcacbcaa
