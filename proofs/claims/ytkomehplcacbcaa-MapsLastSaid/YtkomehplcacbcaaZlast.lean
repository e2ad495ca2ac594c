/-
  The walk of MapsLast.
-/
import Derived.Test.YtkomehplcacbcaaZseen
import Derived.Test.YtkomehplcacbcaaZeq
namespace Go.Proofs.Ytkomehplcacbcaa
open Go.RowKit Go.Maps

structure L2 (w : World) (base b room mb : Nat) (sv : Value) (l : List Z.En) (S : List Int) (W : World) : Prop where
  mp : MpAt 62 (kd true) W base b sv room l
  far : ¬ Foot b sv mb
  seen : SeenAt W mb S
  bel : Below w.heap.size w W
  old : w.heap.size ≤ mb
theorem L2.call {w : World} {base b room mb : Nat} {sv : Value} {l : List Z.En} {S : List Int} {W W' : World} (h : L2 w base b room mb sv l S W) (k : Below W.heap.size W W') : L2 w base b room mb sv l S W' :=
  ⟨h.mp.step k, h.far, h.seen.step k, h.bel.trans (k.mono h.bel.size), h.old⟩
theorem L2.turn {w : World} {base b room mb : Nat} {sv : Value} {l : List Z.En} {S S' : List Int} {W W' : World} (h : L2 w base b room mb sv l S W) (k : W.mapTurned W' mb) (s : SeenAt W' mb S') : L2 w base b room mb sv l S' W' :=
  ⟨h.mp.keep (seen_but k) (fun x hx hf => h.far (by rw [← hx]; exact hf)), h.far, s, h.bel.trans ((seen_but k).below h.bel.size (fun x hx => by rw [hx]; exact h.old)), h.old⟩
theorem dd_len : ∀ l : List Z.En, (Z.dd l).length ≤ l.length
  | [] => Nat.le_refl _
  | x :: r => by
    have := dd_len r
    have h2 : (Z.drop x.key (Z.dd r)).length ≤ (Z.dd r).length := by unfold Z.drop; exact List.length_filter_le _ _
    rw [Z.dd, List.length_cons, List.length_cons]
    omega
theorem find_yes {k : Int} {l : List Z.En} {x : Z.En} (h : Z.find k l = some x) : ∃ i, Z.pos k l = some i ∧ l[i]? = some x := by
  rw [Z.find_pos] at h
  cases hp : Z.pos k l with
  | none => rw [hp] at h; cases h
  | some i => rw [hp] at h; exact ⟨i, rfl, h⟩
theorem find_no {k : Int} {l : List Z.En} (h : Z.find k l = none) : Z.pos k l = none := by
  rw [Z.find_pos] at h
  cases hp : Z.pos k l with
  | none => rfl
  | some i =>
    rw [hp] at h
    obtain ⟨x, hx, _⟩ := Z.pos_some hp
    have h2 : l[i]? = none := h
    rw [hx] at h2
    cases h2
set_option maxRecDepth 100000 in
set_option maxHeartbeats 2000000 in
theorem last_many (room N : Nat) (hr : room ≤ 255) (hN : N = 1 + room % 8) (A : Option Addr) (n c : Nat) (w : World) (hm : 60 < n) : Calls Try.prog 5 #[.int .u8 (room : Int), .slice A n c] w fun e w' => e = .returned (.bool true) ∧ Below w.heap.size w w' := by
  obtain ⟨r8, hr8⟩ : ∃ r8, r8 = room % 8 := ⟨_, rfl⟩
  have e8 : ((room : Int) % 8) = (r8 : Int) := by omega
  have e8' : ((room : Int).tmod 8) = (r8 : Int) := by rw [Int.tmod_eq_emod_of_nonneg (by omega)]; exact e8
  have hw1 : IntKind.i64.wrap (room : Int) = (room : Int) := by rw [IntKind.wrap_i64]; omega
  have hw2 : IntKind.i64.wrap (1 + (r8 : Int)) = (N : Int) := by rw [IntKind.wrap_i64]; omega
  have hm2 : (60 : Int) < (n : Int) := by omega
  clear hN hr8 hm
  go_enter Try.func5, Try.ntmps5
  go_wp2_with (go_at_call 6; refine (awake_any _).mono ?_; rintro e w1 ⟨rfl, hb⟩; have B := Lib.hid hb; clear hb)
  refine bodyPost_ret (results_tmp rfl _ _ _) rfl ⟨rfl, B.out⟩
set_option maxRecDepth 100000 in
set_option maxHeartbeats 4000000 in
theorem last_few (room N : Nat) (hr : room ≤ 255) (hN : N = 1 + room % 8) (A : Option Addr) (n c : Nat) (ks : List Nat) (w : World) (h : KeysAt w A n ks) (hm : n ≤ 60) : Calls Try.prog 5 #[.int .u8 (room : Int), .slice A n c] w fun e w' => e = .returned (.bool true) ∧ Below w.heap.size w w' := by
  have HK := Lib.hid h
  have HN8 : Hid (N ≤ 8) := Lib.hid (by omega)
  have HN1 : Hid (1 ≤ N) := Lib.hid (by omega)
  have HNew := Lib.hid (fun w => new_lru N w HN1.out HN8.out)
  obtain ⟨r8, hr8⟩ : ∃ r8, r8 = room % 8 := ⟨_, rfl⟩
  have e8 : ((room : Int) % 8) = (r8 : Int) := by omega
  have e8' : ((room : Int).tmod 8) = (r8 : Int) := by rw [Int.tmod_eq_emod_of_nonneg (by omega)]; exact e8
  have hw1 : IntKind.i64.wrap (room : Int) = (room : Int) := by rw [IntKind.wrap_i64]; omega
  have hw2 : IntKind.i64.wrap (1 + (r8 : Int)) = (N : Int) := by rw [IntKind.wrap_i64]; omega
  have hm2 : ¬ ((60 : Int) < (n : Int)) := by omega
  have HM := Lib.hid hm
  clear h hN hr8 hm
  go_enter Try.func5, Try.ntmps5
  go_upto_region 9 with (first
    | (go_at_call 6; refine (awake_any _).mono ?_; rintro e w1 ⟨rfl, hb⟩; have B := Lib.hid hb; clear hb)
    | (go_at_call 23; refine (HNew.out _).mono ?_; rintro e w2 ⟨rfl, hmp, hb⟩; have S0 : Hid (LaS w w1.heap.size w1.heap.size N (Z.puts N (esK ks 0)) w2) := Lib.hid ⟨_, hmp _ (Nat.le_refl _), B.out.trans (hb.mono B.out.size), B.out.size, hb.size⟩; clear hmp hb))
  generalize w1.heap.size = b at S0 ⊢
  clear HNew B
  go_wp2_with fail
  go_loopw [8, 9, 33] (fun _ _ i wr => ∃ k : Nat, k ≤ n ∧ i = .int .i64 (k : Int) ∧ Hid (LaS w b b N (Z.puts N (esK ks k)) wr)) (fun _ _ i _ => n - (intOf i).toNat)
  case atStart => exact ⟨0, Nat.zero_le _, rfl, S0⟩
  case round =>
    clear S0
    obtain ⟨k, hk, rfl, S⟩ := hrel
    by_cases hlt : k < n
    · obtain ⟨bA, off, x, hA, hb, hx, hx255, hc⟩ := (HK.out.step (show Below w.heap.size w wr by obtain ⟨_, _, h, _⟩ := S.out; exact h)).get k hlt
      subst hA
      have HP := Lib.hid (la_put w b b N ks k x hx wr S.out HN1.out HN8.out)
      have hxw : IntKind.i64.wrap (x : Int) = (x : Int) := by rw [IntKind.wrap_i64]; omega
      have hk0 : (0 : Int) ≤ (k : Int) := by omega
      have hk1 : (k : Int) < (n : Int) := by omega
      clear hx hb
      go_wp2_with (go_at_call 10; refine (HP.out).mono ?_; rintro e w4 ⟨rfl, hs⟩; have S4 := Lib.hid hs; clear hs)
      go_roundw
      case rel => exact ⟨k + 1, by omega, by go_num, S4⟩
      case measure => (simp [intOf] <;> omega)
    · obtain rfl : k = n := by omega
      clear hlt
      have hmm := @run_makeMap Try.prog
      obtain ⟨sv, hmp, hbl, hbb, hbw⟩ := S.out
      have K0 : Hid (L2 w b b N wr.heap.size sv (Z.puts N (esK ks k)) (Z.keys (Z.dd ((esK ks k).reverse.take (k - k)))) (wr.alloc (.map #[] 0))) := Lib.hid ⟨hmp.step ((Below.refl _ _).alloc (Nat.le_refl _) _), fun hf => by (have := (hmp.foot hf).2; omega), by rw [Nat.sub_self]; exact seenAt_made wr, hbl.alloc hbl.size _, hbl.size⟩
      have hkw : IntKind.i64.wrap ((k : Int) - 1) = (k : Int) - 1 := by have := HM.out; rw [IntKind.wrap_i64]; omega
      clear S hmp hbl hbb hbw
      go_upto_region 17 with fail
      generalize wr.alloc (.map #[] 0) = w3 at K0 ⊢
      generalize wr.heap.size = mb at K0 ⊢
      clear hmm hkw
      go_loopw [11, 12, 13, 14] (fun i _ _ _ wr => ∃ (m : Nat) (q : Int), m ≤ k ∧ q = (m : Int) - 1 ∧ i = .int .i64 q ∧ Hid (L2 w b b N mb sv (Z.puts N (esK ks k)) (Z.keys (Z.dd ((esK ks k).reverse.take (k - m)))) wr)) (fun i _ _ _ _ => (intOf i + 1).toNat)
      case atStart => exact ⟨k, _, Nat.le_refl _, rfl, rfl, K0⟩
      case round =>
        clear K0
        obtain ⟨m, q, hmk, hq, rfl, K⟩ := hrel
        by_cases hm0 : m = 0
        · subst hm0
          have hq' : q = -1 := by omega
          subst hq'
          have hlen := fun ty => K.out.seen.len ty
          have HLen : Hid ((Z.keys (Z.dd ((esK ks k).reverse.take (k - 0)))).length = (Z.dd (esK ks k).reverse).length) := Lib.hid (by unfold Z.keys; rw [List.length_map, Nat.sub_zero, List.take_of_length_le (by rw [List.length_reverse, esK_len]; exact Nat.le_refl _)])
          have HP := Lib.hid (Z.last_len N HN1.out (esK ks k))
          have HL := Lib.hid (len_any (kd true) b b sv N _ _ K.out.mp)
          rw [HLen.out] at hlen
          rw [HP.out] at HL
          generalize (Z.dd (esK ks k).reverse).length = D at hlen HL HLen
          clear HP
          have HB := Lib.hid K.out.bel
          clear hmk
          obtain ⟨M, hM⟩ : ∃ M, M = min N D := ⟨_, rfl⟩
          rw [← hM] at HL
          have HMN := Lib.hid hM
          clear hM hq
          go_wp2_with (go_at_call 22; refine (HL.out).mono ?_; rintro e w8 ⟨rfl, hb⟩; have HB2 := Lib.hid (HB.out.trans (hb.mono HB.out.size)); have hlen2 := fun ty => (K.out.call hb).seen.len ty; rw [HLen.out] at hlen2; clear hb)
          all_goals
            go_ret
            exact ⟨ret_bool (by have := HMN.out; simp; omega), HB2.out⟩
        · obtain ⟨t, rfl⟩ : ∃ t, m = t + 1 := ⟨m - 1, by omega⟩
          obtain rfl : q = (t : Int) := by omega
          clear hq hm0
          have htk : t < k := by omega
          obtain ⟨bA, off, x, hA, hb, hx, hx255, hc⟩ := (HK.out.step K.out.bel).get t htk
          subst hA
          have hrev := rev_at ks k t htk
          rw [enAt_key hx] at hrev
          obtain ⟨j, hj⟩ : ∃ j, j = k - (t + 1) := ⟨_, rfl⟩
          have hj1 : k - t = j + 1 := by omega
          rw [← hj] at K hrev
          have hS1 : Z.keys (Z.dd ((esK ks k).reverse.take (k - t))) = Z.keys (Z.dd ((esK ks k).reverse.take (j + 1))) := by rw [hj1]
          have hxw : IntKind.i64.wrap (x : Int) = (x : Int) := by rw [IntKind.wrap_i64]; omega
          have ht0 : (0 : Int) ≤ (t : Int) := by omega
          have ht1 : (t : Int) < (k : Int) := by omega
          have htw : IntKind.i64.wrap ((t : Int) - 1) = (t : Int) - 1 := by have := HM.out; rw [IntKind.wrap_i64]; omega
          have hlook := K.out.seen.look (x : Int) (by omega) (by omega)
          have hmem := mem_keys (k := (x : Int)) (l := Z.dd ((esK ks k).reverse.take j))
          rw [Z.has_dd] at hmem
          cases hs : Z.has (x : Int) ((esK ks k).reverse.take j) with
          | true =>
            have h2 := Z.next_old _ _ _ hrev hs
            rw [h2] at hS1
            rw [decide_eq_true (hmem.2 hs)] at hlook
            have HS1 := Lib.hid hS1
            have HTK : Hid (t ≤ k) := Lib.hid (by omega)
            clear hs h2 hS1 hmem hrev hj hj1 hx hmk htk
            go_wp2
            go_roundw
            case rel => exact ⟨t, _, HTK.out, rfl, rfl, by rw [HS1.out]; exact K⟩
            case measure => (simp [intOf] <;> omega)
          | false =>
            obtain ⟨h1, h2⟩ := Z.next_new _ _ _ hrev hs
            have hget := Z.last_new N HN1.out (esK ks k) j _ hrev hs
            rw [h2] at hS1
            have hnm : ¬ (x : Int) ∈ Z.keys (Z.dd ((esK ks k).reverse.take j)) := fun hm => by rw [hmem.1 hm] at hs; cases hs
            rw [decide_eq_false hnm] at hlook
            have HNM := Lib.hid hnm
            have HS1 : Hid (Z.keys (Z.dd ((esK ks k).reverse.take (k - t))) = Z.keys (Z.dd ((esK ks k).reverse.take j)) ++ [(x : Int)]) := Lib.hid (by rw [hS1]; unfold Z.keys; rw [List.map_append]; rfl)
            have HTK : Hid (t ≤ k) := Lib.hid (by omega)
            have HDL : Hid ((Z.dd ((esK ks k).reverse.take j)).length ≤ 60) := Lib.hid (by
              have := dd_len ((esK ks k).reverse.take j)
              have h3 : ((esK ks k).reverse.take j).length ≤ k := by rw [List.length_take, List.length_reverse, esK_len]; omega
              have := HM.out
              omega)
            have HSl : Hid ((Z.keys (Z.dd ((esK ks k).reverse.take j))).length = (Z.dd ((esK ks k).reverse.take j)).length) := Lib.hid (by unfold Z.keys; rw [List.length_map])
            clear hs h1 h2 hS1 hmem hrev hj hj1 hx hmk htk hnm
            simp only at hget
            generalize (Z.dd ((esK ks k).reverse.take j)).length = D at HSl HDL hget
            by_cases hd : D < N
            · skip
              have hlt2 : (D : Int) < (N : Int) := by omega
              rw [if_pos hd] at hget
              obtain ⟨i, hp, hxi⟩ := find_yes hget
              have HG := Lib.hid (get_yes (kd true) b b sv N _ (x : Int) i _ wr K.out.mp (by have := Z.puts_len N HN1.out (esK ks k); have := HN8.out; omega) hp hxi)
              clear hp hxi
              clear hd hget
              go_upto_region 22 with (first
                | (go_at_call 18; refine (HG.out).mono ?_; rintro e w5 ⟨rfl, hb⟩; have K5 := Lib.hid (K.out.call hb); clear hb)
                | ((with_reducible refine wpList_store_newrow valT (vs := wordsL ⟨(x : Int), (t : Int), 0, 0, 0⟩) rfl (wordsL_one _) rfl (.tmp 13) (.tmp 66) rfl rfl ?_ ?_ ?_); (exact rfl); (exact rfl); intro W6 hP hb hz; have K6 := Lib.hid (K5.out.call hb); have HV := Lib.hid hP; clear hP hb hz; generalize w5.heap.size = V at HV ⊢))
              have hlen := fun ty => K6.out.seen.len ty
              rw [HSl.out] at hlen
              obtain ⟨w7, hst, hS7, ht7⟩ := K6.out.seen.store (by rw [HSl.out]; have := HDL.out; omega) (x : Int) (by omega) (by omega) HNM.out
              have K7 := Lib.hid (K6.out.turn ht7 hS7)
              clear hS7 ht7 hlook HG
              have hneq : ∀ w, (binOp .neq 39 (.agg (wordsL ⟨(x : Int), (t : Int), 0, 0, 0⟩).toArray) (.agg #[.int .i64 (t : Int), .int .i64 0, .int .i64 0, .int .i64 0])).run Try.prog w = .ok (.bool false) w := fun w => run_neqw ⟨(x : Int), (t : Int), 0, 0, 0⟩ w
              have hneg : ∀ p q w, (eqGuard .neq 39 p q (.agg (wordsL ⟨(x : Int), (t : Int), 0, 0, 0⟩).toArray) (.agg #[.int .i64 (t : Int), .int .i64 0, .int .i64 0, .int .i64 0])).run Try.prog w = .ok () w := fun p q w => run_negw p q ⟨(x : Int), (t : Int), 0, 0, 0⟩ w
              have HLL : Hid ((wordsL ⟨(x : Int), (t : Int), 0, 0, 0⟩).length = 4) := Lib.hid rfl
              generalize wordsL ⟨(x : Int), (t : Int), 0, 0, 0⟩ = L at HV HLL hneq hneg ⊢
              go_wp2_with (first
                | ((with_reducible refine wpList_loadg_row valT HV.out HLL.out (.tmp 13) rfl rfl ?_ ?_); (exact rfl)))
              go_roundw
              case rel => exact ⟨t, _, HTK.out, rfl, rfl, by rw [HS1.out]; exact K7⟩
              case measure => (simp [intOf] <;> omega)
            · skip
              have hlt2 : ¬ ((D : Int) < (N : Int)) := by omega
              rw [if_neg hd] at hget
              have HG := Lib.hid (get_no (kd true) b b sv N _ (x : Int) wr K.out.mp (by have := Z.puts_len N HN1.out (esK ks k); have := HN8.out; omega) (find_no hget))
              clear hd hget
              go_upto_region 22 with (first
                | (go_at_call 18; refine (HG.out).mono ?_; rintro e w5 ⟨rfl, hb⟩; have K5 := Lib.hid (K.out.call hb); clear hb)
                | ((with_reducible refine wpList_store_newrow valT (vs := [.int .i64 0, .int .i64 0, .int .i64 0, .int .i64 0]) rfl zero_one rfl (.tmp 13) (.tmp 66) rfl rfl ?_ ?_ ?_); (exact rfl); (exact rfl); intro W6 hP hb hz; have K6 := Lib.hid (K5.out.call hb); have HV := Lib.hid hP; clear hP hb hz; generalize w5.heap.size = V at HV ⊢))
              have hlen := fun ty => K6.out.seen.len ty
              rw [HSl.out] at hlen
              obtain ⟨w7, hst, hS7, ht7⟩ := K6.out.seen.store (by rw [HSl.out]; have := HDL.out; omega) (x : Int) (by omega) (by omega) HNM.out
              have K7 := Lib.hid (K6.out.turn ht7 hS7)
              clear hS7 ht7 hlook HG
              go_wp2
              go_roundw
              case rel => exact ⟨t, _, HTK.out, rfl, rfl, by rw [HS1.out]; exact K7⟩
              case measure => (simp [intOf] <;> omega)
theorem last_walk (room : Nat) (hr : room ≤ 255) (A : Option Addr) (n c : Nat) (ks : List Nat) (w : World) (h : KeysAt w A n ks) (hn : n ≤ maxLen) : Calls Try.prog 5 #[.int .u8 (room : Int), .slice A n c] w fun e w' => e = .returned (.bool true) ∧ Below w.heap.size w w' := by
  by_cases hm : n ≤ 60
  · exact last_few room _ hr rfl A n c ks w h hm
  · exact last_many room _ hr rfl A n c w (by omega)
end Go.Proofs.Ytkomehplcacbcaa
