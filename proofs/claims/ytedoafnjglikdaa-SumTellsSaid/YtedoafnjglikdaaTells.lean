/-
  Proved: SumTells returns true for every text, place and byte: bytes of which one is another one have another sum.
  Conditions: none beside the statement's own.
-/
import Derived.Test.YtedoafnjglikdaaMore
import Derived.WalkKit
import Derived.ProofKit
import Derived.OpenShut
import Derived.ShutString
import Derived.ChangeOld
import Derived.Below
import Derived.Laws.IdiomStrings
import Derived.Deep.RegionWith
namespace Go.Proofs.Ytedoafnjglikdaa.sumTells
open Go.ChangeShapes Go.WideShapes Go.ChangeAt Go.RowKit
open Go.ChangeMaps (open_string shut_string)
set_option linter.unusedVariables false      -- a walk need not use every 'w<i>' (that an integer argument fits its kind)

theorem own : ownKnob Try.prog.godebug = none := by kernel_rfl


set_option maxHeartbeats 400000 in
theorem walk_out (s : ByteArray) (at_ by_ : Int) (w : World) (hs : s.size ≤ maxLen) (h : 3000 < s.size ∨ at_ < 0 ∨ (s.size : Int) ≤ at_) :
    Calls Try.prog 5 #[.string s, .int .i64 at_, .int .u8 by_] w fun e w' => e = .returned (.bool true) ∧ Below w.heap.size w w' := by
  unfold maxLen at hs
  by_cases h1 : 3000 < s.size
  · clear h
    go_enter Try.func5, Try.ntmps5
    go_wp2_with fail
    refine (awake_any w).mono ?_
    rintro e w1 ⟨rfl, hb⟩
    go_wp2_with fail
    go_ret
    exact ⟨rfl, hb⟩
  · by_cases h2 : at_ < 0
    · clear h
      go_enter Try.func5, Try.ntmps5
      go_wp2_with fail
      refine (awake_any w).mono ?_
      rintro e w1 ⟨rfl, hb⟩
      go_wp2_with fail
      go_ret
      exact ⟨rfl, hb⟩
    · have h3 : (s.size : Int) ≤ at_ := by omega
      clear h
      go_enter Try.func5, Try.ntmps5
      go_wp2_with fail
      refine (awake_any w).mono ?_
      rintro e w1 ⟨rfl, hb⟩
      go_wp2_with fail
      go_ret
      exact ⟨rfl, hb⟩

def sumOf (s : ByteArray) : Int := Mt.joinN (Mt.run (0, 0) s.data.toList)
theorem sum_one (s : ByteArray) (W : World) (b c : Nat) (hs : s.size ≤ 3000) (hb : b < W.heap.size) (hc : W.cell? ⟨b, 0, none⟩ = some (.string s)) :
    Calls Try.prog 11 #[.slice (some ⟨b, 0, none⟩) 1 c] W fun e w' => e = .returned (.int .u32 (sumOf s)) ∧ W = w' := by
  have h := sum_any (some ⟨b, 0, none⟩) 1 c [s] W ⟨rfl, by unfold maxLen; omega, fun i => by
    rcases i with _ | i
    · unfold maxLen; simp; omega
    · simp [maxLen], fun _ => ⟨b, 0, rfl, hb, fun i hi => by obtain rfl : i = 0 := by omega
                                                             simpa using hc⟩⟩
  simpa [bytesOf, sumOf] using h
theorem back (W : World) (B cap n : Nat) (t : ByteArray) (hn : n = t.size) (hc : ∀ j (hj : j < t.size), W.cell? ⟨B, j, none⟩ = some (.int .u8 (t[j].toNat : Int))) :
    (convert 34 9 (.slice (some ⟨B, 0, none⟩) n cap)).run Try.prog W = .ok (.string t) W := by
  subst hn
  have h := run_convert_bytes_back (P := Try.prog) W 34 9 5 ⟨B, 0, none⟩ cap t.data.toList Try.underlying34 Try.underlying5 Try.underlying9 (fun j hj => by
    have e : (⟨B, 0, none⟩ : Addr).add j = ⟨B, j, none⟩ := by unfold Addr.add; split <;> simp_all
    rw [e, hc j (by simpa using hj)]; rfl)
  have e : t.data.toList.length = t.size := by simp
  have e2 : (⟨t.data.toList.toArray⟩ : ByteArray) = t := by simp
  rw [e, e2] at h
  exact h

theorem fin (s t : ByteArray) (k : Nat) (hk : k < s.size) (d : UInt8) (ht : t.data.toList = s.data.toList.set k (s[k] ^^^ d)) :
    ((sumOf s == sumOf t) == ((d.toNat : Int) == 0)) = true := by
  have hk' : k < s.data.toList.length := by simpa using hk
  have e1 : s.data.toList = s.data.toList.take k ++ s[k] :: s.data.toList.drop (k + 1) := by
    conv => lhs; rw [← List.take_append_drop k s.data.toList, List.drop_eq_getElem_cons hk']
    rfl
  have e2 : t.data.toList = s.data.toList.take k ++ (s[k] ^^^ d) :: s.data.toList.drop (k + 1) := by
    rw [ht, List.set_eq_take_append_cons_drop, if_pos hk']
  by_cases h : d = 0
  · subst h
    have : s.data.toList = t.data.toList := by rw [ht]; simp; exact (List.set_getElem_self hk').symm
    unfold sumOf; rw [this]; simp
  · have hne : (sumOf s == sumOf t) = false := by
      rw [beq_eq_false_iff_ne]
      intro he
      have := Mt.join_inj _ _ (Mt.fit_run _ _ Mt.fit_zero) (Mt.fit_run _ _ Mt.fit_zero) he
      have q := Mt.tells (s.data.toList.take k) (s.data.toList.drop (k + 1)) s[k] (s[k] ^^^ d) (by rw [← e1, ← e2]; exact this)
      have q' : s[k] ^^^ 0 = s[k] ^^^ d := by simpa using q
      exact h ((UInt8.xor_right_inj _).1 q').symm
    have hd : ((d.toNat : Int) == 0) = false := by
      rw [beq_eq_false_iff_ne]
      intro e
      exact h (UInt8.toNat_inj.1 (by simpa using e))
    rw [hne, hd]; rfl

theorem cells_in (w1 : World) (s t : ByteArray) (k cap : Nat) (d : UInt8) (hk : k < s.size) (ht : t.data.toList = s.data.toList.set k (s[k] ^^^ d)) (j : Nat) (hj : j < t.size) :
    ((w1.alloc (Obj.cells (bytesRow s cap) 5 ((bytesRow s cap).size, (bytesRow s cap).size + 1))).setCell ⟨w1.heap.size, k, none⟩ (Value.int IntKind.u8 ((s[k].toNat ^^^ d.toNat : Nat) : Int))).drew.cell? ⟨w1.heap.size, j, none⟩ = some (.int .u8 (t[j].toNat : Int)) := by
  have hts : t.size = s.size := by have := congrArg List.length ht; simpa using this
  have e : t[j] = if k = j then s[k] ^^^ d else s[j]'(by omega) := by
    have h1 : t.data.toList[j]? = some t[j] := by rw [List.getElem?_eq_getElem (by simpa using hj)]; rfl
    have h2 : s.data.toList[j]? = some (s[j]'(by omega)) := by rw [List.getElem?_eq_getElem (by simp; omega)]; rfl
    rw [ht, List.getElem?_set] at h1
    by_cases hkj : k = j
    · rw [if_pos hkj] at h1 ⊢
      rw [if_pos (by simpa using hk)] at h1
      exact (Option.some.inj h1).symm
    · rw [if_neg hkj] at h1 ⊢
      rw [h2] at h1
      exact (Option.some.inj h1).symm
  have hold : (w1.alloc (Obj.cells (bytesRow s cap) 5 ((bytesRow s cap).size, (bytesRow s cap).size + 1))).cell? ⟨w1.heap.size, j, none⟩ = some (.int .u8 ((s[j]'(by omega)).toNat : Int)) := by
    rw [World.cell?_alloc_mark]; exact bytesRow_at s cap j (by show j < s.size; omega)
  by_cases hkj : k = j
  · subst hkj
    rw [e, if_pos rfl, UInt8.toNat_xor]
    exact World.cell?_setCell_same' _ _ _ (by rw [hold]; rfl)
  · have hne : (⟨w1.heap.size, k, none⟩ : Addr) ≠ ⟨w1.heap.size, j, none⟩ := fun h => hkj (by injection h)
    rw [e, if_neg hkj]
    exact (World.cell?_setCell_other _ _ _ _ hne).trans hold

theorem ret_bool {b : Bool} (h : b = true) : Ending.returned (.bool b) = .returned (.bool true) := by rw [h]

set_option maxHeartbeats 4000000 in
theorem walk_main (s t : ByteArray) (k : Nat) (d : UInt8) (w : World) (hk : k < s.size) (hs : s.size ≤ 3000) (ht : t.data.toList = s.data.toList.set k (s[k] ^^^ d)) :
    Calls Try.prog 5 #[.string s, .int .i64 (k : Int), .int .u8 (d.toNat : Int)] w fun e w' => e = .returned (.bool true) ∧ Below w.heap.size w w' := by
  have hk' : (k : Int) < (s.size : Int) := by omega
  have HT := Lib.hid ht; clear ht
  have hx : bits BinOp.xor IntKind.u8 (s[k].toNat : Int) (d.toNat : Int) = ((s[k].toNat ^^^ d.toNat : Nat) : Int) := by
    have h1 := s[k].toNat_lt
    have h2 := d.toNat_lt
    rw [u8_xor _ _ (by omega) (by omega) (by omega) (by omega)]; simp
  go_enter Try.func5, Try.ntmps5
  go_wp2_with fail
  refine (awake_any w).mono ?_
  rintro e w1 ⟨rfl, hb⟩
  have hconv := run_bytes_of_string (P := Try.prog) w1 9 34 5 s Try.underlying9 Try.underlying34 Try.underlying5
  generalize grownCap w1 s.size 0 5 = cap at hconv
  have hcell : (w1.alloc (.cells (bytesRow s cap) 5 ((bytesRow s cap).size, (bytesRow s cap).size + 1))).cell? ⟨w1.heap.size, k, none⟩ = some (.int .u8 (s[k].toNat : Int)) := by
    rw [World.cell?_alloc_mark]; exact bytesRow_at s cap k hk
  have hfz : (w1.alloc (.cells (bytesRow s cap) 5 ((bytesRow s cap).size, (bytesRow s cap).size + 1))).frozen? ⟨w1.heap.size, k, none⟩ = false := by
    rw [World.frozen?_alloc_mark]; unfold bytesRow; simp; omega
  go_wp2_with fail
  clear hcell hfz hconv hx
  have HB : Hid (Below w.heap.size w ((w1.alloc (Obj.cells (bytesRow s cap) 5 ((bytesRow s cap).size, (bytesRow s cap).size + 1))).setCell ⟨w1.heap.size, k, none⟩ (Value.int IntKind.u8 ((s[k].toNat ^^^ d.toNat : Nat) : Int))).drew) :=
    Lib.hid (((hb.alloc hb.size _).setCell (by exact hb.size) _).drew)
  have hz : w1.heap.size < ((w1.alloc (Obj.cells (bytesRow s cap) 5 ((bytesRow s cap).size, (bytesRow s cap).size + 1))).setCell ⟨w1.heap.size, k, none⟩ (Value.int IntKind.u8 ((s[k].toNat ^^^ d.toNat : Nat) : Int))).drew.heap.size := by
    simp [World.setCell]
  have HC := Lib.hid (cells_in w1 s t k cap d hk HT.out)
  have HF := Lib.hid (fin s t k hk d HT.out)
  have hts : Hid (s.size = t.size) := Lib.hid (by have := congrArg List.length HT.out; simpa using this.symm)
  generalize ((w1.alloc (Obj.cells (bytesRow s cap) 5 ((bytesRow s cap).size, (bytesRow s cap).size + 1))).setCell ⟨w1.heap.size, k, none⟩ (Value.int IntKind.u8 ((s[k].toNat ^^^ d.toNat : Nat) : Int))).drew = W at HB hz HC ⊢
  have hb0 := back W.drew w1.heap.size cap s.size t hts.out HC.out
  have hb1 := back (W.alloc (.cells #[.string s] 9)).drew w1.heap.size cap s.size t hts.out (fun j hj => (World.cell?_alloc_lt W _ _ hz).trans (HC.out j hj))
  generalize w1.heap.size = B at *
  have HQ1 := Lib.hid (fun (W : World) (b c : Nat) => sum_one s W b c hs)
  have HQ2 := Lib.hid (fun (W : World) (b c : Nat) => sum_one t W b c (hts.out ▸ hs))
  go_region_with (first
    | (go_at_call 11; refine (HQ1.out _ _ _ ?_ ?_).mono ?_; (focus (simp [go_sem]; done)); (focus (simp [go_sem]; done)); rintro e w' ⟨rfl, rfl⟩)
    | (go_at_call 11; refine (HQ2.out _ _ _ ?_ ?_).mono ?_; (focus (simp [go_sem]; done)); (focus (simp [go_sem]; done)); rintro e w' ⟨rfl, rfl⟩))
  all_goals (go_wp2; go_ret)
  all_goals exact ⟨ret_bool HF.out, ((HB.out.alloc HB.out.size _).alloc (Nat.le_trans HB.out.size (by simp)) _).drew⟩

theorem walk (a0 : ByteArray) (a1 : Int) (a2 : Int) (w0 : a0.size ≤ maxLen) (w1 : (Lit.int .i64 a1).wf = true) (w2 : (Lit.int .u8 a2).wf = true) (w : World) :
    Calls Try.prog 5 #[.string a0, .int .i64 a1, .int .u8 a2] w fun e w' => e = .returned (.bool true) ∧ Below w.heap.size w w' := by
  have hb := bounds_u8 w2
  by_cases h : 3000 < a0.size ∨ a1 < 0 ∨ (a0.size : Int) ≤ a1
  · exact walk_out a0 a1 a2 w w0 h
  · obtain ⟨k, rfl⟩ := Int.eq_ofNat_of_zero_le (show 0 ≤ a1 by omega)
    obtain ⟨d, rfl⟩ : ∃ d : UInt8, a2 = (d.toNat : Int) := ⟨UInt8.ofNat a2.toNat, by rw [UInt8.toNat_ofNat']; omega⟩
    exact walk_main a0 ⟨(a0.data.toList.set k (a0[k]'(by omega) ^^^ d)).toArray⟩ k d w (by omega) (by omega) rfl

/-! ### THE ROW's STEP: WRITTEN OUT: LEAVE IT -/
set_option maxRecDepth 100000 in
theorem lifted (os : Os) (started : os.Started) (H : Type) (enc : TypeId × Value → H) :
    ReturnsInHanded {} Try.checked os 5 .any (Rows.sumTellsSpec.pre6 enc Try.prog Try.f5 Rows.sumTellsRow.domain false) (Rows.sumTellsSpec.post enc Try.prog Try.f5 false true false false) := by
  refine returnsInHanded_of_change (C := Try.checked) own started (by kernel_rfl) Try.func5
    (ChangeSpec.witness6 (enc := enc) (C := Try.checked) false ⟨#[], #[.string ByteArray.empty, .int .i64 0, .int .u8 0], []⟩ 8 (by kernel_rfl) (by kernel_rfl) (by kernel_rfl) (by kernel_rfl)) ?_
  intro W base args ds gs before hval0 hW hcnd _
  have hval : ∀ (j : Nat) t v, Try.f5.params[j]? = some t → args[j]? = some v → Value.okWide Try.prog W .any base t v := hval0
  have hW' := hW
  obtain ⟨p, q, hA0, hV, rfl, hfz, hnd⟩ := hW
  have hA : DataW.TrodAll enc Try.prog W 0 (fun _ => true) true Try.f5.params.toList args.toList ds p := hA0
  rw [Try.params5] at hA hval
  obtain ⟨v0, vs0, d0, ds0, p0, q0, hargs, rfl, rfl, h0, r0⟩ := trodAll_cons hA
  obtain ⟨v1, vs1, d1, ds1, p1, q1, rfl, rfl, rfl, h1, r1⟩ := trodAll_cons r0
  obtain ⟨v2, vs2, d2, ds2, p2, q2, rfl, rfl, rfl, h2, r2⟩ := trodAll_cons r1
  obtain ⟨rfl, rfl, rfl⟩ := trodAll_nil r2
  obtain rfl : args = #[v0, v1, v2] := by cases args; simp_all
  obtain ⟨rfl, rfl⟩ := trodVars_none hV
  obtain ⟨a0, rfl, rfl, rfl, w0⟩ := open_string Try.underlying9 (hval 0 9 v0 rfl rfl) h0
  obtain ⟨a1, rfl, rfl, rfl, w1⟩ := open_int Try.underlying3 (hval 1 3 v1 rfl rfl) h1
  obtain ⟨a2, rfl, rfl, rfl, w2⟩ := open_int Try.underlying5 (hval 2 5 v2 rfl rfl) h2
  clear hA0 hval0
  refine (walk a0 a1 a2 w0 w1 w2 W).mono fun e W' ⟨he, bel⟩ => ?_
  subst he
  exact ⟨_, rfl, _, _, _, [], _, [], hW', trodAll_mk1 (shut_bool Try.underlying4 _), (trodAll_cons_mk (shut_string Try.underlying9 w0) (trodAll_cons_mk (shut_int Try.underlying3 w1) (trodAll_cons_mk (shut_int Try.underlying5 w2) trodAll_mk0))), rfl, bel.frame _, fun h => by cases h⟩

theorem over : Rows.sumTellsRow.holds Try.pinned (OpenSpec.ofChange Rows.sumTellsSpec) :=
  OpenClaim.holds_of_wide 5 Try.f5 rfl rfl rfl rfl rfl rfl rfl ⟨rfl, rfl, rfl, rfl, rfl⟩ rfl rfl rfl rfl rfl (by kernel_rfl) Try.func5 (by kernel_rfl)
    (of_decide_eq_true (by kernel_rfl)) (by unfold Func.isWrapper; first | (rw [if_pos (by decide +kernel)]; kernel_rfl) | (rw [if_neg (by decide +kernel)]; exact ⟨rfl, rfl⟩))
    (fun os started H enc _ => lifted os started H enc)

/-- ████ THE STATEMENT ████ -/
theorem proved : Rows.SumTellsSaid :=
  over
#print axioms proved
end Go.Proofs.Ytedoafnjglikdaa.sumTells
