/-
  Proved: SumSwaps returns true for every text and every two places: bytes of which two at most 256 places apart changed places have another sum, if these two were unlike.
  Conditions: none beside the statement's own.
-/
import Derived.Test.YtedoafnjglikdaaMore
import Derived.WalkKit
import Derived.ProofKit
import Derived.OpenShut
import Derived.ShutString
import Derived.ChangeOld
import Derived.Below
import Derived.Laws.IdiomStrings
import Derived.Deep.RegionWith
import Derived.RegionTactic
import Derived.ChangeAlike
namespace Go.Proofs.Ytedoafnjglikdaa.sumSwaps
open Go.ChangeShapes Go.WideShapes Go.ChangeAt Go.RowKit
open Go.ChangeMaps (open_string shut_string)
set_option linter.unusedVariables false      -- a walk need not use every 'w<i>' (that an integer argument fits its kind)

theorem own : ownKnob Try.prog.godebug = none := by kernel_rfl

def sumOf (s : ByteArray) : Int := Mt.joinN (Mt.run (0, 0) s.data.toList)
theorem sum_one (s : ByteArray) (W : World) (b c : Nat) (hs : s.size ≤ 3000) (hb : b < W.heap.size) (hc : W.cell? ⟨b, 0, none⟩ = some (.string s)) :
    Calls Try.prog 11 #[.slice (some ⟨b, 0, none⟩) 1 c] W fun e w' => e = .returned (.int .u32 (sumOf s)) ∧ W = w' := by
  have h := sum_any (some ⟨b, 0, none⟩) 1 c [s] W ⟨rfl, by unfold maxLen; omega, fun i => by
    rcases i with _ | i
    · unfold maxLen; simp; omega
    · simp [maxLen], fun _ => ⟨b, 0, rfl, hb, fun i hi => by obtain rfl : i = 0 := by omega
                                                             simpa using hc⟩⟩
  simpa [bytesOf, sumOf] using h
theorem back (W : World) (B cap n : Nat) (t : ByteArray) (hn : n = t.size) (hc : ∀ j (hj : j < t.size), W.cell? ⟨B, j, none⟩ = some (.int .u8 (t[j].toNat : Int))) :
    (convert 34 9 (.slice (some ⟨B, 0, none⟩) n cap)).run Try.prog W = .ok (.string t) W := by
  subst hn
  have h := run_convert_bytes_back (P := Try.prog) W 34 9 5 ⟨B, 0, none⟩ cap t.data.toList Try.underlying34 Try.underlying5 Try.underlying9 (fun j hj => by
    have e : (⟨B, 0, none⟩ : Addr).add j = ⟨B, j, none⟩ := by unfold Addr.add; split <;> simp_all
    rw [e, hc j (by simpa using hj)]; rfl)
  have e : t.data.toList.length = t.size := by simp
  have e2 : (⟨t.data.toList.toArray⟩ : ByteArray) = t := by simp
  rw [e, e2] at h
  exact h

theorem ret_bool {b : Bool} (h : b = true) : Ending.returned (.bool b) = .returned (.bool true) := by rw [h]

theorem parts (l : List UInt8) (i k : Nat) (hik : i < k) (hk : k < l.length) :
    ∃ a m r, l = a ++ l[i] :: (m ++ l[k] :: r) ∧ a.length = i ∧ m.length = k - i - 1 := by
  refine ⟨l.take i, (l.drop (i + 1)).take (k - i - 1), l.drop (k + 1), ?_, by simp; omega, by simp; omega⟩
  have e1 : l[k] :: l.drop (k + 1) = l.drop k := (List.drop_eq_getElem_cons hk).symm
  have e2 : l.drop k = (l.drop (i + 1)).drop (k - i - 1) := by rw [List.drop_drop]; congr 1; omega
  rw [e1, e2, List.take_append_drop, ← List.drop_eq_getElem_cons (by omega), List.take_append_drop]
theorem swapped (a m r : List UInt8) (x y : UInt8) (i k : Nat) (ha : a.length = i) (hm : m.length = k - i - 1) (hik : i < k) :
    ((a ++ x :: (m ++ y :: r)).set i y).set k x = a ++ y :: (m ++ x :: r) := by
  rw [List.set_append_right _ _ (by omega)]
  rw [show i - a.length = 0 by omega, List.set_cons_zero]
  rw [List.set_append_right _ _ (by omega)]
  rw [show k - a.length = m.length + 1 by omega, List.set_cons_succ]
  rw [List.set_append_right _ _ (by omega)]
  rw [show m.length - m.length = 0 by omega, List.set_cons_zero]
theorem fin (s t : ByteArray) (i k : Nat) (hik : i ≤ k) (hk : k < s.size) (hd : k - i ≤ 256) (ht : t.data.toList = (s.data.toList.set i s[k]).set k (s[i]'(by omega))) :
    ((sumOf s == sumOf t) == (((s[i]'(by omega)).toNat : Int) == (s[k].toNat : Int))) = true := by
  have hk' : k < s.data.toList.length := by simpa using hk
  by_cases hc : s[i]'(by omega) = s[k]
  · have e : t.data.toList = s.data.toList := by
      rw [ht, hc]
      have e1 : s.data.toList.set i s[k] = s.data.toList := by
        rw [← hc]; exact List.set_getElem_self (by omega)
      rw [e1]; exact List.set_getElem_self hk'
    unfold sumOf; rw [e, hc]; simp
  · have hlt : i < k := by
      rcases Nat.lt_or_ge i k with h | h
      · exact h
      · obtain rfl : i = k := by omega
        exact absurd rfl hc
    obtain ⟨a, m, r, e, ha, hm⟩ := parts s.data.toList i k hlt hk'
    have ei : s.data.toList[i]'(by omega) = s[i]'(by omega) := rfl
    have ek : s.data.toList[k] = s[k] := rfl
    rw [ei, ek] at e
    have hne : (sumOf s == sumOf t) = false := by
      rw [beq_eq_false_iff_ne]
      intro he
      have q := Mt.join_inj _ _ (Mt.fit_run _ _ Mt.fit_zero) (Mt.fit_run _ _ Mt.fit_zero) he
      rw [ht] at q
      generalize s[i]'(by omega) = x at *
      generalize s[k] = y at *
      rw [e, swapped a m r x y i k ha hm hlt] at q
      exact hc (Mt.swaps a m r x y (by omega) q)
    have hd : (((s[i]'(by omega)).toNat : Int) == (s[k].toNat : Int)) = false := by
      rw [beq_eq_false_iff_ne]
      intro e
      exact hc (UInt8.toNat_inj.1 (by omega))
    rw [hne, hd]; rfl
theorem cells_in (W : World) (B : Nat) (s t : ByteArray) (i k : Nat) (hi : i < s.size) (hk : k < s.size)
    (hc : ∀ j (hj : j < s.size), W.cell? ⟨B, j, none⟩ = some (.int .u8 (s[j].toNat : Int))) (ht : t.data.toList = (s.data.toList.set i s[k]).set k s[i]) (j : Nat) (hj : j < t.size) :
    ((W.setCell ⟨B, i, none⟩ (.int .u8 (s[k].toNat : Int))).setCell ⟨B, k, none⟩ (.int .u8 (s[i].toNat : Int))).drew.cell? ⟨B, j, none⟩ = some (.int .u8 (t[j].toNat : Int)) := by
  have hts : t.size = s.size := by have := congrArg List.length ht; simpa using this
  have e : t[j] = if k = j then s[i] else if i = j then s[k] else s[j]'(by omega) := by
    have h1 : t.data.toList[j]? = some t[j] := by rw [List.getElem?_eq_getElem (by simpa using hj)]; rfl
    have h2 : s.data.toList[j]? = some (s[j]'(by omega)) := by rw [List.getElem?_eq_getElem (by simp; omega)]; rfl
    rw [ht, List.getElem?_set] at h1
    by_cases hkj : k = j
    · rw [if_pos hkj] at h1 ⊢
      rw [if_pos (by simpa using hk)] at h1
      exact (Option.some.inj h1).symm
    · rw [if_neg hkj, List.getElem?_set] at h1
      rw [if_neg hkj]
      by_cases hij : i = j
      · rw [if_pos hij] at h1 ⊢
        rw [if_pos (by simpa using hi)] at h1
        exact (Option.some.inj h1).symm
      · rw [if_neg hij] at h1 ⊢
        rw [h2] at h1
        exact (Option.some.inj h1).symm
  have hold := hc j (by omega)
  have addr : ∀ a, a ≠ j → (⟨B, a, none⟩ : Addr) ≠ ⟨B, j, none⟩ := fun a ha h => ha (by injection h)
  by_cases hkj : k = j
  · rw [e, if_pos hkj]
    subst hkj
    obtain ⟨v, hv⟩ := cell?_setCell_some (w := W) (p := ⟨B, i, none⟩) (x := .int .u8 (s[k].toNat : Int)) hold
    exact World.cell?_setCell_same' _ _ _ (by rw [hv]; rfl)
  · rw [e, if_neg hkj]
    refine (World.cell?_setCell_other _ _ _ _ (addr k hkj)).trans ?_
    by_cases hij : i = j
    · rw [if_pos hij]
      subst hij
      exact World.cell?_setCell_same' _ _ _ (by rw [hold]; rfl)
    · rw [if_neg hij]
      exact (World.cell?_setCell_other _ _ _ _ (addr i hij)).trans hold

set_option maxHeartbeats 1000000 in
theorem walk_out (s : ByteArray) (i k : Int) (w : World) (hs : s.size ≤ maxLen) (w1 : (Lit.int .i64 i).wf = true) (w2 : (Lit.int .i64 k).wf = true)
    (h : 3000 < s.size ∨ i < 0 ∨ (s.size : Int) ≤ i ∨ k < i ∨ (s.size : Int) ≤ k ∨ 256 < k - i) :
    Calls Try.prog 6 #[.string s, .int .i64 i, .int .i64 k] w fun e w' => e = .returned (.bool true) ∧ Below w.heap.size w w' := by
  unfold maxLen at hs
  have b1 := bounds_i64 w1
  have b2 := bounds_i64 w2
  clear w1 w2
  by_cases h0 : 3000 < s.size
  · clear h
    go_enter Try.func6, Try.ntmps6
    go_wp2_with fail
    refine (awake_any w).mono ?_
    rintro e w1 ⟨rfl, hb⟩
    go_wp2_with fail
    go_ret
    exact ⟨rfl, hb⟩
  by_cases h1 : i < 0
  · clear h
    go_enter Try.func6, Try.ntmps6
    go_wp2_with fail
    refine (awake_any w).mono ?_
    rintro e w1 ⟨rfl, hb⟩
    go_wp2_with fail
    go_ret
    exact ⟨rfl, hb⟩
  by_cases h2 : (s.size : Int) ≤ i
  · clear h
    go_enter Try.func6, Try.ntmps6
    go_wp2_with fail
    refine (awake_any w).mono ?_
    rintro e w1 ⟨rfl, hb⟩
    go_wp2_with fail
    go_ret
    exact ⟨rfl, hb⟩
  by_cases h3 : k < i
  · clear h
    go_enter Try.func6, Try.ntmps6
    go_wp2_with fail
    refine (awake_any w).mono ?_
    rintro e w1 ⟨rfl, hb⟩
    go_wp2_with fail
    go_ret
    exact ⟨rfl, hb⟩
  by_cases h4 : (s.size : Int) ≤ k
  · clear h
    go_enter Try.func6, Try.ntmps6
    go_wp2_with fail
    refine (awake_any w).mono ?_
    rintro e w1 ⟨rfl, hb⟩
    go_wp2_with fail
    go_ret
    exact ⟨rfl, hb⟩
  have h5 : 256 < k - i := by omega
  clear h
  go_enter Try.func6, Try.ntmps6
  go_wp2_with fail
  refine (awake_any w).mono ?_
  rintro e w1 ⟨rfl, hb⟩
  go_wp2_with fail
  go_ret
  exact ⟨rfl, hb⟩

set_option maxHeartbeats 4000000 in
theorem walk_main (s t : ByteArray) (i k : Nat) (w : World) (hik : i ≤ k) (hk : k < s.size) (hs : s.size ≤ 3000) (hd : k - i ≤ 256) (ht : t.data.toList = (s.data.toList.set i s[k]).set k (s[i]'(by omega))) :
    Calls Try.prog 6 #[.string s, .int .i64 (i : Int), .int .i64 (k : Int)] w fun e w' => e = .returned (.bool true) ∧ Below w.heap.size w w' := by
  have hi : i < s.size := by omega
  have HT := Lib.hid ht; clear ht
  have hk' : (k : Int) < (s.size : Int) := by omega
  have hi' : (i : Int) < (s.size : Int) := by omega
  have hd' : (k : Int) - (i : Int) ≤ 256 := by omega
  have hki : ¬ (k : Int) < (i : Int) := by omega
  go_enter Try.func6, Try.ntmps6
  go_wp2_with fail
  refine (awake_any w).mono ?_
  rintro e w1 ⟨rfl, hb⟩
  have hconv := run_bytes_of_string (P := Try.prog) w1 9 34 5 s Try.underlying9 Try.underlying34 Try.underlying5
  generalize grownCap w1 s.size 0 5 = cap at hconv
  go_wp2_with fail
  clear hconv
  have HB : Hid (Below w.heap.size w (w1.alloc (Obj.cells (bytesRow s cap) 5 ((bytesRow s cap).size, (bytesRow s cap).size + 1))).drew) :=
    Lib.hid ((hb.alloc hb.size _).drew)
  have hz : w1.heap.size < (w1.alloc (Obj.cells (bytesRow s cap) 5 ((bytesRow s cap).size, (bytesRow s cap).size + 1))).drew.heap.size := by simp
  have hBw : w.heap.size ≤ w1.heap.size := hb.size
  have HC : Hid (∀ j (hj : j < s.size), (w1.alloc (Obj.cells (bytesRow s cap) 5 ((bytesRow s cap).size, (bytesRow s cap).size + 1))).drew.cell? ⟨w1.heap.size, j, none⟩ = some (.int .u8 (s[j].toNat : Int))) :=
    Lib.hid fun j hj => (World.cell?_alloc_mark w1 _ _ _ _).trans (bytesRow_at s cap j hj)
  have HFZ : Hid (∀ j, j < s.size → (w1.alloc (Obj.cells (bytesRow s cap) 5 ((bytesRow s cap).size, (bytesRow s cap).size + 1))).drew.frozen? ⟨w1.heap.size, j, none⟩ = false) :=
    Lib.hid fun j hj => (World.frozen?_alloc_mark w1 _ _ _ _ _).trans (by unfold bytesRow; simp; omega)
  generalize (w1.alloc (Obj.cells (bytesRow s cap) 5 ((bytesRow s cap).size, (bytesRow s cap).size + 1))).drew = W at HB hz HC HFZ ⊢
  clear hb
  generalize w1.heap.size = B at *
  have ci := HC.out i hi
  have ck := HC.out k hk
  have fi := HFZ.out i hi
  have fk := HFZ.out k hk
  obtain ⟨v1, hy1⟩ := cell?_setCell_some (w := W) (p := ⟨B, i, none⟩) (x := .int .u8 (s[k].toNat : Int)) (q := ⟨B, k, none⟩) ck
  obtain ⟨v2, hy2⟩ := cell?_setCell_some (w := W) (p := ⟨B, k, none⟩) (x := .int .u8 (s[i].toNat : Int)) (q := ⟨B, i, none⟩) ci
  go_region
  go_wp2_with fail
  clear ci ck fi fk hy1 hy2 HFZ
  have HB2 : Hid (Below w.heap.size w ((W.setCell ⟨B, i, none⟩ (Value.int IntKind.u8 (s[k].toNat : Int))).setCell ⟨B, k, none⟩ (Value.int IntKind.u8 (s[i].toNat : Int))).drew) :=
    Lib.hid ((HB.out.setCell (by exact hBw) _).setCell (by exact hBw) _).drew
  have hz2 : B < ((W.setCell ⟨B, i, none⟩ (Value.int IntKind.u8 (s[k].toNat : Int))).setCell ⟨B, k, none⟩ (Value.int IntKind.u8 (s[i].toNat : Int))).drew.heap.size := by
    simpa [World.setCell] using hz
  have HC2 := Lib.hid (cells_in W B s t i k hi hk HC.out HT.out)
  clear HC hz HB
  generalize ((W.setCell ⟨B, i, none⟩ (Value.int IntKind.u8 (s[k].toNat : Int))).setCell ⟨B, k, none⟩ (Value.int IntKind.u8 (s[i].toNat : Int))).drew = V at HB2 hz2 HC2 ⊢
  have hts : Hid (s.size = t.size) := Lib.hid (by have := congrArg List.length HT.out; simpa using this.symm)
  have HF := Lib.hid (fin s t i k hik hk hd HT.out)
  have hb0 := back V.drew B cap s.size t hts.out HC2.out
  have hb1 := back (V.alloc (.cells #[.string s] 9)).drew B cap s.size t hts.out (fun j hj => (World.cell?_alloc_lt V _ _ hz2).trans (HC2.out j hj))
  have HQ1 := Lib.hid (fun (W : World) (b c : Nat) => sum_one s W b c hs)
  have HQ2 := Lib.hid (fun (W : World) (b c : Nat) => sum_one t W b c (hts.out ▸ hs))
  refine wp_region_any (by kernel_rfl) ?_
  change wpAny _ _ _ _ _ _ _ (World.drew _)
  refine wpAny_take (i := 0) (v := .string s) rfl (by kernel_rfl) (by kernel_rfl) (by kernel_rfl) (fun _ _ _ h => h) (Or.inl ⟨by rfl, ?_⟩) ?_
  · intro w; go_simp
  refine wpAny_take (i := 3) (v := .slice (some ⟨B, 0, none⟩) s.size cap) rfl (by kernel_rfl) (by kernel_rfl) (by kernel_rfl) (fun _ _ _ h => h) (Or.inl ⟨by rfl, ?_⟩) ?_
  · intro w; go_simp
  refine wpAny_take (i := 8) (v := .string s) rfl (by kernel_rfl) (by kernel_rfl) (by kernel_rfl) (fun _ _ _ h => h) (Or.inl ⟨by rfl, ?_⟩) ?_
  · intro w; go_simp
  refine wpAny_take (i := 9) (v := .int .i64 (i : Int)) rfl (by kernel_rfl) (by kernel_rfl) (by kernel_rfl) (fun _ _ _ h => h) (Or.inl ⟨by rfl, ?_⟩) ?_
  · intro w; go_simp
  refine wpAny_take (i := 11) (v := .string s) rfl (by kernel_rfl) (by kernel_rfl) (by kernel_rfl) (fun _ _ _ h => h) (Or.inl ⟨by rfl, ?_⟩) ?_
  · intro w; go_simp
  refine wpAny_take (i := 12) (v := .int .i64 (k : Int)) rfl (by kernel_rfl) (by kernel_rfl) (by kernel_rfl) (fun _ _ _ h => h) (Or.inl ⟨by rfl, ?_⟩) ?_
  · intro w; go_simp
  refine wpAny_take (i := 10) (v := .int .u8 (s[i].toNat : Int)) rfl (by kernel_rfl) (by kernel_rfl) (by kernel_rfl) (fun _ _ _ h => h) (Or.inl ⟨by rfl, ?_⟩) ?_
  · intro w; go_simp
  refine wpAny_take (i := 13) (v := .int .u8 (s[k].toNat : Int)) rfl (by kernel_rfl) (by kernel_rfl) (by kernel_rfl) (fun _ _ _ h => h) (Or.inl ⟨by rfl, ?_⟩) ?_
  · intro w; go_simp
  refine wpAny_take (i := 14) (v := .bool ((s[i].toNat : Int) == (s[k].toNat : Int))) rfl (by kernel_rfl) (by kernel_rfl) (by kernel_rfl) (fun _ _ _ h => h) (Or.inl ⟨by rfl, ?_⟩) ?_
  · intro w; go_simp
  refine wpAny_ready (rs := [1, 4]) (by kernel_rfl) (by simp) ?_
  refine AllReady.cons rfl (fun K hK => ?_) ?_
  · go_simp
    refine hK _ _ ?_
    clear hK K
    refine wpAny_ready (rs := [2, 4]) (by kernel_rfl) (by simp) ?_
    refine AllReady.cons rfl (fun K hK => ?_) ?_
    · go_simp
      go_wp2_with (first | (go_at_call 11; refine (HQ1.out _ _ _ ?_ ?_).mono ?_; (focus (simp [go_sem]; done)); (focus (simp [go_sem]; done)); rintro e w' ⟨rfl, rfl⟩) | (go_at_call 11; refine (HQ2.out _ _ _ ?_ ?_).mono ?_; (focus (simp [go_sem]; done)); (focus (simp [go_sem]; done)); rintro e w' ⟨rfl, rfl⟩))
      refine wpAny_ready (rs := [4]) (by kernel_rfl) (by simp) ?_
      refine AllReady.cons rfl (fun K hK => ?_) ?_
      · go_simp
        refine hK _ _ ?_
        clear hK K
        refine wpAny_ready (rs := [5]) (by kernel_rfl) (by simp) ?_
        refine AllReady.cons rfl (fun K hK => ?_) ?_
        · go_simp
          refine hK _ _ ?_
          clear hK K
          refine wpAny_ready (rs := [6]) (by kernel_rfl) (by simp) ?_
          refine AllReady.cons rfl (fun K hK => ?_) ?_
          · go_simp
            go_wp2_with (first | (go_at_call 11; refine (HQ1.out _ _ _ ?_ ?_).mono ?_; (focus (simp [go_sem]; done)); (focus (simp [go_sem]; done)); rintro e w' ⟨rfl, rfl⟩) | (go_at_call 11; refine (HQ2.out _ _ _ ?_ ?_).mono ?_; (focus (simp [go_sem]; done)); (focus (simp [go_sem]; done)); rintro e w' ⟨rfl, rfl⟩))
            refine wpAny_take (i := 7) (v := .bool (sumOf s == sumOf t)) rfl (by kernel_rfl) (by kernel_rfl) (by kernel_rfl) (fun _ _ _ h => h) (Or.inl ⟨by rfl, ?_⟩) ?_
            · intro w; go_simp
            refine wpAny_take (i := 15) (v := .bool ((sumOf s == sumOf t) == ((s[i].toNat : Int) == (s[k].toNat : Int)))) rfl (by kernel_rfl) (by kernel_rfl) (by kernel_rfl) (fun _ _ _ h => h) (Or.inl ⟨by rfl, ?_⟩) ?_
            · intro w; go_simp
            refine wpAny_take (i := 16) (v := .bool ((sumOf s == sumOf t) == ((s[i].toNat : Int) == (s[k].toNat : Int)))) rfl (by kernel_rfl) (by kernel_rfl) (by kernel_rfl) (fun _ _ _ h => h) (Or.inl ⟨by rfl, ?_⟩) ?_
            · intro w; go_simp
            refine wpAny_done (by kernel_rfl) ?_ _
            go_wp2
            go_ret
            exact ⟨ret_bool HF.out, ((HB2.out.alloc HB2.out.size _).alloc (Nat.le_trans HB2.out.size (by simp)) _).drew⟩
          exact AllReady.nil
        exact AllReady.nil
      exact AllReady.nil
    refine AllReady.cons rfl (fun K hK => ?_) ?_
    · go_simp
      refine hK _ _ ?_
      clear hK K
      refine wpAny_ready (rs := [2, 5]) (by kernel_rfl) (by simp) ?_
      refine AllReady.cons rfl (fun K hK => ?_) ?_
      · go_simp
        go_wp2_with (first | (go_at_call 11; refine (HQ1.out _ _ _ ?_ ?_).mono ?_; (focus (simp [go_sem]; done)); (focus (simp [go_sem]; done)); rintro e w' ⟨rfl, rfl⟩) | (go_at_call 11; refine (HQ2.out _ _ _ ?_ ?_).mono ?_; (focus (simp [go_sem]; done)); (focus (simp [go_sem]; done)); rintro e w' ⟨rfl, rfl⟩))
        refine wpAny_ready (rs := [5]) (by kernel_rfl) (by simp) ?_
        refine AllReady.cons rfl (fun K hK => ?_) ?_
        · go_simp
          refine hK _ _ ?_
          clear hK K
          refine wpAny_ready (rs := [6]) (by kernel_rfl) (by simp) ?_
          refine AllReady.cons rfl (fun K hK => ?_) ?_
          · go_simp
            go_wp2_with (first | (go_at_call 11; refine (HQ1.out _ _ _ ?_ ?_).mono ?_; (focus (simp [go_sem]; done)); (focus (simp [go_sem]; done)); rintro e w' ⟨rfl, rfl⟩) | (go_at_call 11; refine (HQ2.out _ _ _ ?_ ?_).mono ?_; (focus (simp [go_sem]; done)); (focus (simp [go_sem]; done)); rintro e w' ⟨rfl, rfl⟩))
            refine wpAny_take (i := 7) (v := .bool (sumOf s == sumOf t)) rfl (by kernel_rfl) (by kernel_rfl) (by kernel_rfl) (fun _ _ _ h => h) (Or.inl ⟨by rfl, ?_⟩) ?_
            · intro w; go_simp
            refine wpAny_take (i := 15) (v := .bool ((sumOf s == sumOf t) == ((s[i].toNat : Int) == (s[k].toNat : Int)))) rfl (by kernel_rfl) (by kernel_rfl) (by kernel_rfl) (fun _ _ _ h => h) (Or.inl ⟨by rfl, ?_⟩) ?_
            · intro w; go_simp
            refine wpAny_take (i := 16) (v := .bool ((sumOf s == sumOf t) == ((s[i].toNat : Int) == (s[k].toNat : Int)))) rfl (by kernel_rfl) (by kernel_rfl) (by kernel_rfl) (fun _ _ _ h => h) (Or.inl ⟨by rfl, ?_⟩) ?_
            · intro w; go_simp
            refine wpAny_done (by kernel_rfl) ?_ _
            go_wp2
            go_ret
            exact ⟨ret_bool HF.out, ((HB2.out.alloc HB2.out.size _).alloc (Nat.le_trans HB2.out.size (by simp)) _).drew⟩
          exact AllReady.nil
        exact AllReady.nil
      refine AllReady.cons rfl (fun K hK => ?_) ?_
      · go_simp
        refine hK _ _ ?_
        clear hK K
        refine wpAny_ready (rs := [2]) (by kernel_rfl) (by simp) ?_
        refine AllReady.cons rfl (fun K hK => ?_) ?_
        · go_simp
          go_wp2_with (first | (go_at_call 11; refine (HQ1.out _ _ _ ?_ ?_).mono ?_; (focus (simp [go_sem]; done)); (focus (simp [go_sem]; done)); rintro e w' ⟨rfl, rfl⟩) | (go_at_call 11; refine (HQ2.out _ _ _ ?_ ?_).mono ?_; (focus (simp [go_sem]; done)); (focus (simp [go_sem]; done)); rintro e w' ⟨rfl, rfl⟩))
          refine wpAny_ready (rs := [6]) (by kernel_rfl) (by simp) ?_
          refine AllReady.cons rfl (fun K hK => ?_) ?_
          · go_simp
            go_wp2_with (first | (go_at_call 11; refine (HQ1.out _ _ _ ?_ ?_).mono ?_; (focus (simp [go_sem]; done)); (focus (simp [go_sem]; done)); rintro e w' ⟨rfl, rfl⟩) | (go_at_call 11; refine (HQ2.out _ _ _ ?_ ?_).mono ?_; (focus (simp [go_sem]; done)); (focus (simp [go_sem]; done)); rintro e w' ⟨rfl, rfl⟩))
            refine wpAny_take (i := 7) (v := .bool (sumOf s == sumOf t)) rfl (by kernel_rfl) (by kernel_rfl) (by kernel_rfl) (fun _ _ _ h => h) (Or.inl ⟨by rfl, ?_⟩) ?_
            · intro w; go_simp
            refine wpAny_take (i := 15) (v := .bool ((sumOf s == sumOf t) == ((s[i].toNat : Int) == (s[k].toNat : Int)))) rfl (by kernel_rfl) (by kernel_rfl) (by kernel_rfl) (fun _ _ _ h => h) (Or.inl ⟨by rfl, ?_⟩) ?_
            · intro w; go_simp
            refine wpAny_take (i := 16) (v := .bool ((sumOf s == sumOf t) == ((s[i].toNat : Int) == (s[k].toNat : Int)))) rfl (by kernel_rfl) (by kernel_rfl) (by kernel_rfl) (fun _ _ _ h => h) (Or.inl ⟨by rfl, ?_⟩) ?_
            · intro w; go_simp
            refine wpAny_done (by kernel_rfl) ?_ _
            go_wp2
            go_ret
            exact ⟨ret_bool HF.out, ((HB2.out.alloc HB2.out.size _).alloc (Nat.le_trans HB2.out.size (by simp)) _).drew⟩
          exact AllReady.nil
        exact AllReady.nil
      exact AllReady.nil
    exact AllReady.nil
  refine AllReady.cons rfl (fun K hK => ?_) ?_
  · go_simp
    refine hK _ _ ?_
    clear hK K
    refine wpAny_ready (rs := [1, 5]) (by kernel_rfl) (by simp) ?_
    refine AllReady.cons rfl (fun K hK => ?_) ?_
    · go_simp
      refine hK _ _ ?_
      clear hK K
      refine wpAny_ready (rs := [2, 5]) (by kernel_rfl) (by simp) ?_
      refine AllReady.cons rfl (fun K hK => ?_) ?_
      · go_simp
        go_wp2_with (first | (go_at_call 11; refine (HQ1.out _ _ _ ?_ ?_).mono ?_; (focus (simp [go_sem]; done)); (focus (simp [go_sem]; done)); rintro e w' ⟨rfl, rfl⟩) | (go_at_call 11; refine (HQ2.out _ _ _ ?_ ?_).mono ?_; (focus (simp [go_sem]; done)); (focus (simp [go_sem]; done)); rintro e w' ⟨rfl, rfl⟩))
        refine wpAny_ready (rs := [5]) (by kernel_rfl) (by simp) ?_
        refine AllReady.cons rfl (fun K hK => ?_) ?_
        · go_simp
          refine hK _ _ ?_
          clear hK K
          refine wpAny_ready (rs := [6]) (by kernel_rfl) (by simp) ?_
          refine AllReady.cons rfl (fun K hK => ?_) ?_
          · go_simp
            go_wp2_with (first | (go_at_call 11; refine (HQ1.out _ _ _ ?_ ?_).mono ?_; (focus (simp [go_sem]; done)); (focus (simp [go_sem]; done)); rintro e w' ⟨rfl, rfl⟩) | (go_at_call 11; refine (HQ2.out _ _ _ ?_ ?_).mono ?_; (focus (simp [go_sem]; done)); (focus (simp [go_sem]; done)); rintro e w' ⟨rfl, rfl⟩))
            refine wpAny_take (i := 7) (v := .bool (sumOf s == sumOf t)) rfl (by kernel_rfl) (by kernel_rfl) (by kernel_rfl) (fun _ _ _ h => h) (Or.inl ⟨by rfl, ?_⟩) ?_
            · intro w; go_simp
            refine wpAny_take (i := 15) (v := .bool ((sumOf s == sumOf t) == ((s[i].toNat : Int) == (s[k].toNat : Int)))) rfl (by kernel_rfl) (by kernel_rfl) (by kernel_rfl) (fun _ _ _ h => h) (Or.inl ⟨by rfl, ?_⟩) ?_
            · intro w; go_simp
            refine wpAny_take (i := 16) (v := .bool ((sumOf s == sumOf t) == ((s[i].toNat : Int) == (s[k].toNat : Int)))) rfl (by kernel_rfl) (by kernel_rfl) (by kernel_rfl) (fun _ _ _ h => h) (Or.inl ⟨by rfl, ?_⟩) ?_
            · intro w; go_simp
            refine wpAny_done (by kernel_rfl) ?_ _
            go_wp2
            go_ret
            exact ⟨ret_bool HF.out, ((HB2.out.alloc HB2.out.size _).alloc (Nat.le_trans HB2.out.size (by simp)) _).drew⟩
          exact AllReady.nil
        exact AllReady.nil
      refine AllReady.cons rfl (fun K hK => ?_) ?_
      · go_simp
        refine hK _ _ ?_
        clear hK K
        refine wpAny_ready (rs := [2]) (by kernel_rfl) (by simp) ?_
        refine AllReady.cons rfl (fun K hK => ?_) ?_
        · go_simp
          go_wp2_with (first | (go_at_call 11; refine (HQ1.out _ _ _ ?_ ?_).mono ?_; (focus (simp [go_sem]; done)); (focus (simp [go_sem]; done)); rintro e w' ⟨rfl, rfl⟩) | (go_at_call 11; refine (HQ2.out _ _ _ ?_ ?_).mono ?_; (focus (simp [go_sem]; done)); (focus (simp [go_sem]; done)); rintro e w' ⟨rfl, rfl⟩))
          refine wpAny_ready (rs := [6]) (by kernel_rfl) (by simp) ?_
          refine AllReady.cons rfl (fun K hK => ?_) ?_
          · go_simp
            go_wp2_with (first | (go_at_call 11; refine (HQ1.out _ _ _ ?_ ?_).mono ?_; (focus (simp [go_sem]; done)); (focus (simp [go_sem]; done)); rintro e w' ⟨rfl, rfl⟩) | (go_at_call 11; refine (HQ2.out _ _ _ ?_ ?_).mono ?_; (focus (simp [go_sem]; done)); (focus (simp [go_sem]; done)); rintro e w' ⟨rfl, rfl⟩))
            refine wpAny_take (i := 7) (v := .bool (sumOf s == sumOf t)) rfl (by kernel_rfl) (by kernel_rfl) (by kernel_rfl) (fun _ _ _ h => h) (Or.inl ⟨by rfl, ?_⟩) ?_
            · intro w; go_simp
            refine wpAny_take (i := 15) (v := .bool ((sumOf s == sumOf t) == ((s[i].toNat : Int) == (s[k].toNat : Int)))) rfl (by kernel_rfl) (by kernel_rfl) (by kernel_rfl) (fun _ _ _ h => h) (Or.inl ⟨by rfl, ?_⟩) ?_
            · intro w; go_simp
            refine wpAny_take (i := 16) (v := .bool ((sumOf s == sumOf t) == ((s[i].toNat : Int) == (s[k].toNat : Int)))) rfl (by kernel_rfl) (by kernel_rfl) (by kernel_rfl) (fun _ _ _ h => h) (Or.inl ⟨by rfl, ?_⟩) ?_
            · intro w; go_simp
            refine wpAny_done (by kernel_rfl) ?_ _
            go_wp2
            go_ret
            exact ⟨ret_bool HF.out, ((HB2.out.alloc HB2.out.size _).alloc (Nat.le_trans HB2.out.size (by simp)) _).drew⟩
          exact AllReady.nil
        exact AllReady.nil
      exact AllReady.nil
    refine AllReady.cons rfl (fun K hK => ?_) ?_
    · go_simp
      refine hK _ _ ?_
      clear hK K
      refine wpAny_ready (rs := [1]) (by kernel_rfl) (by simp) ?_
      refine AllReady.cons rfl (fun K hK => ?_) ?_
      · go_simp
        refine hK _ _ ?_
        clear hK K
        refine wpAny_ready (rs := [2]) (by kernel_rfl) (by simp) ?_
        refine AllReady.cons rfl (fun K hK => ?_) ?_
        · go_simp
          go_wp2_with (first | (go_at_call 11; refine (HQ1.out _ _ _ ?_ ?_).mono ?_; (focus (simp [go_sem]; done)); (focus (simp [go_sem]; done)); rintro e w' ⟨rfl, rfl⟩) | (go_at_call 11; refine (HQ2.out _ _ _ ?_ ?_).mono ?_; (focus (simp [go_sem]; done)); (focus (simp [go_sem]; done)); rintro e w' ⟨rfl, rfl⟩))
          refine wpAny_ready (rs := [6]) (by kernel_rfl) (by simp) ?_
          refine AllReady.cons rfl (fun K hK => ?_) ?_
          · go_simp
            go_wp2_with (first | (go_at_call 11; refine (HQ1.out _ _ _ ?_ ?_).mono ?_; (focus (simp [go_sem]; done)); (focus (simp [go_sem]; done)); rintro e w' ⟨rfl, rfl⟩) | (go_at_call 11; refine (HQ2.out _ _ _ ?_ ?_).mono ?_; (focus (simp [go_sem]; done)); (focus (simp [go_sem]; done)); rintro e w' ⟨rfl, rfl⟩))
            refine wpAny_take (i := 7) (v := .bool (sumOf s == sumOf t)) rfl (by kernel_rfl) (by kernel_rfl) (by kernel_rfl) (fun _ _ _ h => h) (Or.inl ⟨by rfl, ?_⟩) ?_
            · intro w; go_simp
            refine wpAny_take (i := 15) (v := .bool ((sumOf s == sumOf t) == ((s[i].toNat : Int) == (s[k].toNat : Int)))) rfl (by kernel_rfl) (by kernel_rfl) (by kernel_rfl) (fun _ _ _ h => h) (Or.inl ⟨by rfl, ?_⟩) ?_
            · intro w; go_simp
            refine wpAny_take (i := 16) (v := .bool ((sumOf s == sumOf t) == ((s[i].toNat : Int) == (s[k].toNat : Int)))) rfl (by kernel_rfl) (by kernel_rfl) (by kernel_rfl) (fun _ _ _ h => h) (Or.inl ⟨by rfl, ?_⟩) ?_
            · intro w; go_simp
            refine wpAny_done (by kernel_rfl) ?_ _
            go_wp2
            go_ret
            exact ⟨ret_bool HF.out, ((HB2.out.alloc HB2.out.size _).alloc (Nat.le_trans HB2.out.size (by simp)) _).drew⟩
          exact AllReady.nil
        exact AllReady.nil
      exact AllReady.nil
    exact AllReady.nil
  exact AllReady.nil

theorem walk (a0 : ByteArray) (a1 : Int) (a2 : Int) (w0 : a0.size ≤ maxLen) (w1 : (Lit.int .i64 a1).wf = true) (w2 : (Lit.int .i64 a2).wf = true) (w : World) :
    Calls Try.prog 6 #[.string a0, .int .i64 a1, .int .i64 a2] w fun e w' => e = .returned (.bool true) ∧ Below w.heap.size w w' := by
  by_cases h : 3000 < a0.size ∨ a1 < 0 ∨ (a0.size : Int) ≤ a1 ∨ a2 < a1 ∨ (a0.size : Int) ≤ a2 ∨ 256 < a2 - a1
  · exact walk_out a0 a1 a2 w w0 w1 w2 h
  · obtain ⟨i, rfl⟩ := Int.eq_ofNat_of_zero_le (show 0 ≤ a1 by omega)
    obtain ⟨k, rfl⟩ := Int.eq_ofNat_of_zero_le (show 0 ≤ a2 by omega)
    exact walk_main a0 ⟨((a0.data.toList.set i (a0[k]'(by omega))).set k (a0[i]'(by omega))).toArray⟩ i k w (by omega) (by omega) (by omega) (by omega) rfl

/-! ### THE ROW's STEP: WRITTEN OUT: LEAVE IT -/
set_option maxRecDepth 100000 in
theorem lifted (os : Os) (started : os.Started) (H : Type) (enc : TypeId × Value → H) :
    ReturnsInHanded {} Try.checked os 6 .any (Rows.sumSwapsSpec.pre6 enc Try.prog Try.f6 Rows.sumSwapsRow.domain false) (Rows.sumSwapsSpec.post enc Try.prog Try.f6 false true false false) := by
  refine returnsInHanded_of_change (C := Try.checked) own started (by kernel_rfl) Try.func6
    (ChangeSpec.witness6 (enc := enc) (C := Try.checked) false ⟨#[], #[.string ByteArray.empty, .int .i64 0, .int .i64 0], []⟩ 8 (by kernel_rfl) (by kernel_rfl) (by kernel_rfl) (by kernel_rfl)) ?_
  intro W base args ds gs before hval0 hW hcnd _
  have hval : ∀ (j : Nat) t v, Try.f6.params[j]? = some t → args[j]? = some v → Value.okWide Try.prog W .any base t v := hval0
  have hW' := hW
  obtain ⟨p, q, hA0, hV, rfl, hfz, hnd⟩ := hW
  have hA : DataW.TrodAll enc Try.prog W 0 (fun _ => true) true Try.f6.params.toList args.toList ds p := hA0
  rw [Try.params6] at hA hval
  obtain ⟨v0, vs0, d0, ds0, p0, q0, hargs, rfl, rfl, h0, r0⟩ := trodAll_cons hA
  obtain ⟨v1, vs1, d1, ds1, p1, q1, rfl, rfl, rfl, h1, r1⟩ := trodAll_cons r0
  obtain ⟨v2, vs2, d2, ds2, p2, q2, rfl, rfl, rfl, h2, r2⟩ := trodAll_cons r1
  obtain ⟨rfl, rfl, rfl⟩ := trodAll_nil r2
  obtain rfl : args = #[v0, v1, v2] := by cases args; simp_all
  obtain ⟨rfl, rfl⟩ := trodVars_none hV
  obtain ⟨a0, rfl, rfl, rfl, w0⟩ := open_string Try.underlying9 (hval 0 9 v0 rfl rfl) h0
  obtain ⟨a1, rfl, rfl, rfl, w1⟩ := open_int Try.underlying3 (hval 1 3 v1 rfl rfl) h1
  obtain ⟨a2, rfl, rfl, rfl, w2⟩ := open_int Try.underlying3 (hval 2 3 v2 rfl rfl) h2
  clear hA0 hval0
  refine (walk a0 a1 a2 w0 w1 w2 W).mono fun e W' ⟨he, bel⟩ => ?_
  subst he
  exact ⟨_, rfl, _, _, _, [], _, [], hW', trodAll_mk1 (shut_bool Try.underlying4 _), (trodAll_cons_mk (shut_string Try.underlying9 w0) (trodAll_cons_mk (shut_int Try.underlying3 w1) (trodAll_cons_mk (shut_int Try.underlying3 w2) trodAll_mk0))), rfl, bel.frame _, fun h => by cases h⟩

theorem over : Rows.sumSwapsRow.holds Try.pinned (OpenSpec.ofChange Rows.sumSwapsSpec) :=
  OpenClaim.holds_of_wide 6 Try.f6 rfl rfl rfl rfl rfl rfl rfl ⟨rfl, rfl, rfl, rfl, rfl⟩ rfl rfl rfl rfl rfl (by kernel_rfl) Try.func6 (by kernel_rfl)
    (of_decide_eq_true (by kernel_rfl)) (by unfold Func.isWrapper; first | (rw [if_pos (by decide +kernel)]; kernel_rfl) | (rw [if_neg (by decide +kernel)]; exact ⟨rfl, rfl⟩))
    (fun os started H enc _ => lifted os started H enc)

/-- ████ THE STATEMENT ████ -/
theorem proved : Rows.SumSwapsSaid :=
  over
#print axioms proved
end Go.Proofs.Ytedoafnjglikdaa.sumSwaps
