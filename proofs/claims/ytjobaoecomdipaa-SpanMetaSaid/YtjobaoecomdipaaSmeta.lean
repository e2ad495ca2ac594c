/-
  The contracts of span.leading and span.Meta.
-/
import Derived.Test.YtjobaoecomdipaaSmem
import Derived.Carry
import Derived.BigQuiet
namespace Go.Proofs.Ytjobaoecomdipaa
open Go.RowKit Go.Maps

def intVals (zs : List Int) : List Value := zs.map fun z => Value.int .i64 z
theorem intVals_length (zs : List Int) : (intVals zs).length = zs.length := by simp [intVals]
theorem intRow_new (w : World) (xs : List Int) (t : TypeId) (hl : xs.length ≤ 1000) : IntRow (w.alloc (.cells (intVals xs).toArray t)) (some ⟨w.heap.size, 0, none⟩) xs.length xs where
  len := rfl
  small := by unfold maxLen; omega
  cells := fun _ => ⟨w.heap.size, 0, rfl, by simp, fun i x hx => by
    rw [Nat.zero_add, World.cell?_alloc_mark, List.getElem?_toArray]
    unfold intVals
    rw [List.getElem?_map, hx]; rfl⟩
def LeadGives (d o n : Int) (w : World) : Prop := Calls Try.prog 21 #[wayV d o n] w fun e w' => ∃ A c, e = .returned (.slice A (Sp.leads d o).length c) ∧ IntRow w' A (Sp.leads d o).length (Sp.leads d o) ∧ Below w.heap.size w w'
set_option maxRecDepth 100000 in
set_option maxHeartbeats 1000000 in
theorem leading_any (d o n : Int) (w : World) : LeadGives d o n w := by
  unfold LeadGives
  have HB := Lib.hid (way_box w d o n).2
  unfold wayV
  by_cases d1 : d = 1
  · subst d1
    have HL := intRow_new (w.alloc (.cells #[.int .i64 1, .int .i64 o, .int .i64 n] 24)) [-2] 3 (by simp)
    rw [World.size_alloc] at HL
    replace HL := Lib.hid HL
    rw [show Sp.leads 1 o = [-2] from rfl]
    go_enter Try.func21, Try.ntmps21
    go_wp2
    go_ret
    exact ⟨_, _, rfl, HL.out, HB.out.alloc HB.out.size _⟩
  · have e1 : (d == 1) = false := by rw [beq_eq_false_iff_ne]; exact d1
    by_cases d2 : d = 2
    · subst d2
      have HL := intRow_new (w.alloc (.cells #[.int .i64 2, .int .i64 o, .int .i64 n] 24)) [-1, o] 3 (by simp)
      rw [World.size_alloc] at HL
      replace HL := Lib.hid HL
      rw [show Sp.leads 2 o = [-1, o] from rfl]
      clear d1 e1
      go_enter Try.func21, Try.ntmps21
      go_wp2
      go_ret
      exact ⟨_, _, rfl, HL.out, HB.out.alloc HB.out.size _⟩
    · have e2 : (d == 2) = false := by rw [beq_eq_false_iff_ne]; exact d2
      have HE : Hid (Sp.leads d o = []) := Lib.hid (by unfold Sp.leads; rw [if_neg d1, if_neg d2])
      rw [HE.out]
      clear d1 d2
      go_enter Try.func21, Try.ntmps21
      go_wp2
      go_ret
      exact ⟨none, 0, rfl, ⟨rfl, Nat.zero_le _, fun h => by simp at h⟩, HB.out⟩

/-- what holds between two rounds -/
structure MKeep (w wr : World) (mb : Nat) (A : Option Addr) (n : Nat) (xs : List Int) (s : Sp.St) : Prop where
  row : IntRow wr A n xs
  set : SetAt wr mb s
  bel : Below w.heap.size w wr
theorem MKeep.step {w wr wr' : World} {mb : Nat} {A : Option Addr} {n : Nat} {xs : List Int} {s : Sp.St} (h : MKeep w wr mb A n xs s) (hb : Below wr.heap.size wr wr') : MKeep w wr' mb A n xs s :=
  ⟨h.row.step hb, h.set.step hb, h.bel.trans (hb.mono h.bel.size)⟩
theorem leads_bd {i k : Int} {d o : Int} (hd : d = Sp.dep i) (ho : o = Sp.out i) (h : k ∈ Sp.leads d o) : -1000 ≤ k ∧ k ≤ 1000 := by
  subst hd; subst ho
  unfold Sp.leads at h
  have hg : 0 ≤ Sp.out i ∧ Sp.out i ≤ 32 := by unfold Sp.out; split <;> omega
  split at h
  · simp at h; omega
  · split at h
    · simp at h; omega
    · simp at h
theorem cnt_puts (xs : List Int) (k : Nat) (ks : List Int) (hn : k ≤ 200) (hm : ks.length ≤ 2) : ((Sp.run (xs.take k)).puts ks).cnt ≤ 1000 := by
  have h1 := Sp.run_len (xs.take k)
  have h2 := Sp.puts_len ks (Sp.run (xs.take k))
  have h3 := Sp.cnt_bd ((Sp.run (xs.take k)).puts ks)
  have h4 : (xs.take k).length ≤ k := by rw [List.length_take]; omega
  omega
set_option maxRecDepth 100000 in
set_option maxHeartbeats 4000000 in
theorem meta_any (A : Option Addr) (n c : Nat) (xs : List Int) (w : World) (h : IntRow w A n xs) (hn : n ≤ 200) :
    Calls Try.prog 13 #[.slice A n c] w fun e w' => e = .returned (.int .i64 (Sp.meta_ xs : Int)) ∧ Below w.heap.size w w' := by
  have hlen := h.len
  have HX := Lib.hid h; clear h
  have HLEN := Lib.hid hlen; clear hlen
  have hmm := @run_makeMap Try.prog
  go_enter Try.func13, Try.ntmps13
  go_wp2_with fail
  have K0 : Hid (MKeep w (w.alloc (.map #[] 0)) w.heap.size A n xs (Sp.run (xs.take 0))) := Lib.hid ⟨HX.out.step ((Below.refl _ _).alloc (Nat.le_refl _) _), setAt_made w, (Below.refl _ _).alloc (Nat.le_refl _) _⟩
  have hmb : w.heap.size ≤ w.heap.size := Nat.le_refl _
  generalize w.alloc (.map #[] 0) = w1 at K0 ⊢
  generalize hme : w.heap.size = mb at K0 ⊢
  rw [hme] at hmb
  have hmb : Hid (w.heap.size ≤ mb) := Lib.hid (by omega)
  clear hmm hme
  go_loopw [13] (fun i wr => ∃ k : Nat, k ≤ n ∧ i = .int .i64 (k : Int) ∧ MKeep w wr mb A n xs (Sp.run (xs.take k))) (fun i _ => n - (intOf i).toNat)
  case atStart => exact ⟨0, Nat.zero_le _, rfl, K0.out⟩
  case round =>
    obtain ⟨k, hk, rfl, hK⟩ := hrel
    rename World => wo
    have KK := Lib.hid hK; clear hK
    by_cases hlt : k < n
    · obtain ⟨b, off, rfl, hbl, hc⟩ := KK.out.row.cells (by omega)
      obtain ⟨x, hx⟩ : ∃ x, xs[k]? = some x := ⟨_, List.getElem?_eq_getElem (by rw [HLEN.out]; exact hlt)⟩
      have hx0 := hc k x hx
      have HT := Lib.hid (Sp.run_take xs k x hx)
      have HW := Lib.hid (fun w => where_any x w)
      unfold WhereGives at HW
      clear hc hx
      cases hok : Sp.okB x with
      | false =>
        have HS : Hid (Sp.run (xs.take (k + 1)) = Sp.run (xs.take k)) := Lib.hid (by rw [HT.out, Sp.step_no _ _ hok])
        rw [hok] at HW
        clear hok HT
        generalize Sp.dep x = d at HW
        generalize Sp.out x = o at HW
        generalize Sp.inn x = m at HW
        go_wp2_with (first
          | (go_at_call 8; (with_reducible refine (HW.out _).mono ?_); rintro e w2 ⟨rfl, hb⟩; replace KK := Lib.hid (KK.out.step hb); clear hb hx0)
          | ((with_reducible refine wpList_store_newrow wayT (vs := wayL d o m) rfl (wayL_one _ _ _) rfl (.tmp 6) (.tmp 20) rfl rfl ?_ ?_ ?_); (exact rfl); (exact rfl); intro W3 hP hb hz; replace KK := Lib.hid (KK.out.step hb); clear hP hb hz))
        go_roundw
        case rel => exact ⟨k + 1, by omega, by go_num, by rw [HS.out]; exact KK.out⟩
        case measure => simp [intOf]; omega
      | true =>
        have HS : Hid (Sp.run (xs.take (k + 1)) = (Sp.run (xs.take k)).puts (Sp.leads (Sp.dep x) (Sp.out x))) := Lib.hid (by rw [HT.out]; unfold Sp.St.step; rw [if_pos hok])
        have HBD : Hid (∀ q ∈ Sp.leads (Sp.dep x) (Sp.out x), -1000 ≤ q ∧ q ≤ 1000) := Lib.hid (fun q hq => leads_bd rfl rfl hq)
        have HM2 := Sp.leads_len (Sp.dep x) (Sp.out x)
        have HCN : Hid (∀ j, ((Sp.run (xs.take k)).puts ((Sp.leads (Sp.dep x) (Sp.out x)).take j)).cnt ≤ 1000) := Lib.hid (fun j => cnt_puts xs k _ (by omega) (by rw [List.length_take]; omega))
        have HL : Hid (∀ w, Calls Try.prog 21 #[.agg (wayL (Sp.dep x) (Sp.out x) (Sp.inn x)).toArray] w fun e w' => ∃ A c, e = .returned (.slice A (Sp.leads (Sp.dep x) (Sp.out x)).length c) ∧ IntRow w' A (Sp.leads (Sp.dep x) (Sp.out x)).length (Sp.leads (Sp.dep x) (Sp.out x)) ∧ Below w.heap.size w w') := Lib.hid (fun w => leading_any _ _ _ w)
        rw [hok] at HW
        clear hok HT
        obtain ⟨ks, hks⟩ : ∃ ks, Sp.leads (Sp.dep x) (Sp.out x) = ks := ⟨_, rfl⟩
        rw [hks] at HS HBD HM2 HCN HL
        clear hks
        generalize Sp.dep x = d at HW HL
        generalize Sp.out x = o at HW HL
        generalize Sp.inn x = m at HW HL
        generalize Sp.run (xs.take k) = s at KK HS HCN
        obtain ⟨kl, hkl⟩ : ∃ kl, ks.length = kl := ⟨_, rfl⟩
        rw [hkl] at HM2 HL
        have HKL := Lib.hid hkl; clear hkl
        go_wp2_with (first
          | (go_at_call 8; (with_reducible refine (HW.out _).mono ?_); rintro e w2 ⟨rfl, hb⟩; replace KK := Lib.hid (KK.out.step hb); clear hb hx0)
          | ((with_reducible refine wpList_store_newrow wayT (vs := wayL d o m) rfl (wayL_one _ _ _) rfl (.tmp 6) (.tmp 20) rfl rfl ?_ ?_ ?_); (exact rfl); (exact rfl); intro W3 hP hb hz; replace KK := Lib.hid (KK.out.step hb); have F := Lib.hid hP; clear hP hb hz; generalize w2.heap.size = D at F ⊢)
          | (with_reducible refine wpList_load_row wayT F.out rfl rfl (.tmp 6) rfl rfl ?_)
          | (go_at_call 21; (with_reducible refine (HL.out _).mono ?_); rintro e w4 ⟨A4, c4, rfl, hr4, hb⟩; replace KK := Lib.hid (KK.out.step hb); have R4 := Lib.hid hr4; clear hb hr4))
        go_loopw [26] (fun i wr => ∃ j : Nat, j ≤ kl ∧ i = .int .i64 (j : Int) ∧ MKeep w wr mb (some ⟨b, off, none⟩) n xs (s.puts (ks.take j)) ∧ IntRow wr A4 kl ks) (fun i _ => kl - (intOf i).toNat)
        case atStart => exact ⟨0, Nat.zero_le _, rfl, KK.out, R4.out⟩
        case round =>
          obtain ⟨j, hj, rfl, hK2, hR2⟩ := hrel
          have K2 := Lib.hid hK2; clear hK2
          have R2 := Lib.hid hR2; clear hR2
          by_cases hjl : j < kl
          · obtain ⟨b4, off4, rfl, _, hc4⟩ := R2.out.cells (by omega)
            obtain ⟨q, hq⟩ : ∃ q, ks[j]? = some q := ⟨_, List.getElem?_eq_getElem (by rw [HKL.out]; exact hjl)⟩
            have hq0 := hc4 j q hq
            have hqb := HBD.out q (List.mem_of_getElem? hq)
            have HQ := Lib.hid (Sp.puts_take s ks j q hq)
            clear hc4 hq
            obtain ⟨w5, hst, hS5, ht5⟩ := K2.out.set.store (HCN.out j) q hqb.1 hqb.2
            have K5 : Hid (MKeep w w5 mb (some ⟨b, off, none⟩) n xs ((s.puts (ks.take j)).put q)) := Lib.hid ⟨K2.out.row.turned ht5, hS5, turn_below K2.out.bel hmb.out ht5⟩
            have R5 := Lib.hid (R2.out.turned ht5)
            clear hS5 ht5 hqb
            go_wp2
            go_roundw
            case rel => exact ⟨j + 1, by omega, by go_num, by rw [HQ.out]; exact K5.out, R5.out⟩
            case measure => simp [intOf]; omega
          · have HE2 : Hid (s.puts (ks.take j) = s.puts ks) := Lib.hid (by rw [List.take_of_length_le (by rw [HKL.out]; omega)])
            go_wp2
            go_roundw
            case rel => exact ⟨k + 1, by omega, by go_num, by rw [HS.out, ← HE2.out]; exact K2.out⟩
            case measure => simp [intOf]; omega
    · have HE : Hid (Sp.run (xs.take k) = Sp.run xs) := Lib.hid (by rw [List.take_of_length_le (by rw [HLEN.out]; omega)])
      have hlen := fun ty => KK.out.set.len ty
      rw [HE.out] at hlen
      go_wp2
      go_ret
      exact ⟨rfl, KK.out.bel⟩
end Go.Proofs.Ytjobaoecomdipaa
