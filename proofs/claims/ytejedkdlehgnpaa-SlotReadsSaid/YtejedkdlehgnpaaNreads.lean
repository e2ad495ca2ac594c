/-
  Proved: SlotReads returns true for all pages and places: what stands in a slot is the entry that the document says, or none.
  Conditions: none beside the statement's own.
-/
import Derived.Test.YtejedkdlehgnpaaNopen
namespace Go.Proofs.Ytejedkdlehgnpaa.slotReads
open Go.ChangeShapes Go.WideShapes Go.ChangeAt Go.RowKit

theorem start (p : List UInt8) (w : World) : RowsS w [(w.heap.size, byteVals p)] (w.alloc (.cells (byteVals p).toArray 32)) ∨ p.length ≠ 64 := by
  by_cases hp : p.length = 64
  · exact Or.inl (RowsS.add ⟨fun x hx => (by cases hx), Below.refl _ _⟩ ((Below.refl _ _).alloc (Nat.le_refl _) _) (rowAt_new w (byteVals p) _) (by rw [byteVals_length, hp]; decide))
  · exact Or.inr hp
set_option maxRecDepth 100000 in
set_option maxHeartbeats 4000000 in
theorem walk (p : List UInt8) (i : Int) (w : World) (hp : p.length = 64) :
    Calls Try.prog 5 #[pageV p, .int .i64 i] w fun e w' => e = .returned (.bool true) ∧ Below w.heap.size w w' := by
  have S0 := Lib.hid ((start p w).resolve_right (fun h => h hp))
  have HP := Lib.hid hp
  by_cases ht : thereB i = true
  · obtain ⟨k, rfl, hk⟩ := there_nat ht
    have HG := Lib.hid (fun w => get_at p k w hp hk)
    have HR := Lib.hid (fun w => refGet_any p k w hp hk)
    have hrel : ((Nm.ent (Nm.at_ p k)).isSome = true ∧ errI (Nm.ent (Nm.at_ p k)) = 0) ∨ ((Nm.ent (Nm.at_ p k)).isSome = false ∧ errI (Nm.ent (Nm.at_ p k)) = 5) := by
      cases Nm.ent (Nm.at_ p k) with
      | none => right; exact ⟨rfl, rfl⟩
      | some x => left; exact ⟨rfl, rfl⟩
    generalize Nm.entN (Nm.ent (Nm.at_ p k)) = m at HG HR
    generalize strOf (Nm.entS (Nm.ent (Nm.at_ p k))) = t at HG HR
    generalize (Nm.ent (Nm.at_ p k)).isSome = f at HR hrel
    generalize errI (Nm.ent (Nm.at_ p k)) = x at HG hrel
    change Hid (∀ w, Calls Try.prog 14 #[pageV p, .int .i64 (k : Int)] w fun e w' => e = .returned (.tuple #[.agg (entL m t).toArray, .int .i64 x]) ∧ Below w.heap.size w w') at HG
    change Hid (∀ w, Calls Try.prog 17 #[pageV p, .int .i64 (k : Int)] w fun e w' => e = .returned (.tuple #[.agg (entL m t).toArray, .bool f]) ∧ Below w.heap.size w w') at HR
    have E1 : ∀ (x y : Operand) (w : World), (eqGuard .eql 30 x y (.agg (entL m t).toArray) (.agg (entL m t).toArray)).run Try.prog w = .ok () w := fun x y w => run_egd_ent _ (Or.inr rfl) x y m m t t w
    have E2 : ∀ (w : World), (binOp .eql 30 (.agg (entL m t).toArray) (.agg (entL m t).toArray)).run Try.prog w = .ok (.bool true) w := fun w => (run_eql_ent _ (Or.inr rfl) m m t t w).trans (by rw [ent_refl])
    clear ht hp
    rcases hrel with ⟨hf, hx⟩ | ⟨hf, hx⟩
    all_goals
      rw [hx] at HG
      rw [hf] at HR
      clear hx hf
      unfold pageV
      go_enter Try.func5, Try.ntmps5
      go_wp2_with fail
      refine (awake_any _).mono ?_
      rintro e w1 ⟨rfl, hb⟩
      have S := Lib.hid (S0.out.call hb)
      clear hb S0
      go_wp2_with (first
        | (with_reducible refine wpList_load_page (rows_page S.out.at0 HP.out) rfl (.tmp 2) rfl rfl ?_)
        | (go_at_call 14; (with_reducible refine (HG.out _).mono ?_); rintro e w2 ⟨rfl, hb⟩; replace S := Lib.hid (S.out.call hb); clear hb)
        | ((with_reducible refine wpList_store_newrow entT (vs := entL m t) (entL_len _ _) (entL_one _ _) rfl (.tmp 5) (.tmp 15) rfl rfl ?_ ?_ ?_); (exact rfl); (exact rfl); intro W3 hP hb hz; have T := Lib.hid (S.out.add hb hP (Nat.succ_pos 1)); clear hP hb hz S; generalize w2.heap.size = D at T ⊢)
        | (with_reducible refine wpList_load_page (rows_page T.out.tl.at0 HP.out) rfl (.tmp 2) rfl rfl ?_)
        | (go_at_call 17; (with_reducible refine (HR.out _).mono ?_); rintro e w4 ⟨rfl, hb⟩; replace T := Lib.hid (T.out.call hb); clear hb)
        | ((with_reducible refine wpList_store_newrow rentT (vs := entL m t) (entL_len _ _) (entL_one _ _) rfl (.tmp 7) (.tmp 34) rfl rfl ?_ ?_ ?_); (exact rfl); (exact rfl); intro W5 hP hb hz; have U := Lib.hid (T.out.add hb hP (Nat.succ_pos 1)); clear hP hb hz T; generalize w4.heap.size = E at U ⊢)
        | (with_reducible refine wpList_load_row entT U.out.tl.at0 (entL_len _ _) rfl (.tmp 5) rfl rfl ?_)
        | (with_reducible refine wpList_load_row rentT U.out.at0 (entL_len _ _) rfl (.tmp 7) rfl rfl ?_))
      go_ret
      exact ⟨rfl, U.out.below⟩
  · have ht' : thereB i = false := by simpa using ht
    have HG := Lib.hid (fun w => get_far p i w hp ht')
    change Hid (∀ w, Calls Try.prog 14 #[pageV p, .int .i64 i] w fun e w' => e = .returned (.tuple #[.agg (entL 0 ⟨#[]⟩).toArray, .int .i64 22]) ∧ Below w.heap.size w w') at HG
    have hi : i < 0 ∨ (¬ i < 0 ∧ 3 < i) := by
      have := of_decide_eq_false ht'
      omega
    have E1 : ∀ (x y : Operand) (w : World), (eqGuard .eql 23 x y (.agg (entL 0 ⟨#[]⟩).toArray) (.agg #[.int .i64 0, .string ⟨#[]⟩])).run Try.prog w = .ok () w := fun x y w => run_egd_ent _ (Or.inl rfl) x y 0 0 ⟨#[]⟩ ⟨#[]⟩ w
    have E2 : ∀ (w : World), (binOp .eql 23 (.agg (entL 0 ⟨#[]⟩).toArray) (.agg #[.int .i64 0, .string ⟨#[]⟩])).run Try.prog w = .ok (.bool true) w := fun w => (run_eql_ent _ (Or.inl rfl) 0 0 ⟨#[]⟩ ⟨#[]⟩ w).trans (by rw [ent_refl])
    clear ht ht' hp
    rcases hi with hi | ⟨hi, hi2⟩
    all_goals
      unfold pageV
      go_enter Try.func5, Try.ntmps5
      go_wp2_with fail
      refine (awake_any _).mono ?_
      rintro e w1 ⟨rfl, hb⟩
      have S := Lib.hid (S0.out.call hb)
      clear hb S0
      go_wp2_with (first
        | (with_reducible refine wpList_load_page (rows_page S.out.at0 HP.out) rfl (.tmp 2) rfl rfl ?_)
        | (go_at_call 14; (with_reducible refine (HG.out _).mono ?_); rintro e w2 ⟨rfl, hb⟩; replace S := Lib.hid (S.out.call hb); clear hb)
        | ((with_reducible refine wpList_store_newrow entT (vs := entL 0 ⟨#[]⟩) (entL_len _ _) (entL_one _ _) rfl (.tmp 5) (.tmp 15) rfl rfl ?_ ?_ ?_); (exact rfl); (exact rfl); intro W3 hP hb hz; have T := Lib.hid (S.out.add hb hP (Nat.succ_pos 1)); clear hP hb hz S; generalize w2.heap.size = D at T ⊢)
        | (with_reducible refine wpList_load_row entT T.out.at0 (entL_len _ _) rfl (.tmp 5) rfl rfl ?_))
      go_ret
      exact ⟨rfl, T.out.below⟩
set_option maxRecDepth 100000 in
theorem lifted (os : Os) (started : os.Started) (H : Type) (enc : TypeId × Value → H) :
    ReturnsInHanded {} Try.checked os 5 .any (Rows.slotReadsSpec.pre6 enc Try.prog Try.f5 Rows.slotReadsRow.domain false) (Rows.slotReadsSpec.post enc Try.prog Try.f5 false true false false) := by
  refine returnsInHanded_of_change (C := Try.checked) own started (by kernel_rfl) Try.func5
    (ChangeSpec.witness6 (enc := enc) (C := Try.checked) false ⟨#[], #[.agg #[.int .u8 0, .int .u8 0, .int .u8 0, .int .u8 0, .int .u8 0, .int .u8 0, .int .u8 0, .int .u8 0, .int .u8 0, .int .u8 0, .int .u8 0, .int .u8 0, .int .u8 0, .int .u8 0, .int .u8 0, .int .u8 0, .int .u8 0, .int .u8 0, .int .u8 0, .int .u8 0, .int .u8 0, .int .u8 0, .int .u8 0, .int .u8 0, .int .u8 0, .int .u8 0, .int .u8 0, .int .u8 0, .int .u8 0, .int .u8 0, .int .u8 0, .int .u8 0, .int .u8 0, .int .u8 0, .int .u8 0, .int .u8 0, .int .u8 0, .int .u8 0, .int .u8 0, .int .u8 0, .int .u8 0, .int .u8 0, .int .u8 0, .int .u8 0, .int .u8 0, .int .u8 0, .int .u8 0, .int .u8 0, .int .u8 0, .int .u8 0, .int .u8 0, .int .u8 0, .int .u8 0, .int .u8 0, .int .u8 0, .int .u8 0, .int .u8 0, .int .u8 0, .int .u8 0, .int .u8 0, .int .u8 0, .int .u8 0, .int .u8 0, .int .u8 0], .int .i64 0], []⟩ 8 (by kernel_rfl) (by kernel_rfl) (by kernel_rfl) (by kernel_rfl)) ?_
  intro W base args ds gs before hval0 hW hcnd _
  have hval : ∀ (j : Nat) t v, Try.f5.params[j]? = some t → args[j]? = some v → Value.okWide Try.prog W .any base t v := hval0
  have hW' := hW
  obtain ⟨p, q, hA0, hV, rfl, hfz, hnd⟩ := hW
  have hA : DataW.TrodAll enc Try.prog W 0 (fun _ => true) true Try.f5.params.toList args.toList ds p := hA0
  rw [Try.params5] at hA hval
  obtain ⟨v0, vs0, d0, ds0, p0, q0, hargs, rfl, rfl, h0, r0⟩ := trodAll_cons hA
  obtain ⟨v1, vs1, d1, ds1, p1, q1, rfl, rfl, rfl, h1, r1⟩ := trodAll_cons r0
  obtain ⟨rfl, rfl, rfl⟩ := trodAll_nil r1
  obtain rfl : args = #[v0, v1] := by cases args; simp_all
  obtain ⟨rfl, rfl⟩ := trodVars_none hV
  have k0 := h0
  have lt0 : ∀ x ∈ p0, x.block < W.heap.size := by obtain ⟨m, hm⟩ := k0; exact DataW.trod_lt m _ _ _ hm
  have k1 := h1
  have lt1 : ∀ x ∈ p1, x.block < W.heap.size := by obtain ⟨m, hm⟩ := k1; exact DataW.trod_lt m _ _ _ hm
  obtain ⟨p, hp, rfl⟩ := open_page (hval 0 32 v0 rfl rfl) h0
  obtain ⟨i, rfl, ed1, ep1, w1⟩ := open_int Try.underlying3 (hval 1 3 v1 rfl rfl) h1
  clear hA0 hval0
  refine (walk p i W hp).mono fun e W' ⟨he, bel⟩ => ?_
  subst he
  exact ⟨_, rfl, _, _, _, [], _, [], hW', trodAll_mk1 (shut_bool Try.underlying4 _), (trodAll_cons_mk (Below.trod laidOut (by kernel_rfl) (of_decide_eq_true (by kernel_rfl)) k0 bel lt0) (trodAll_cons_mk (Below.trod laidOut (by kernel_rfl) (of_decide_eq_true (by kernel_rfl)) k1 bel lt1) trodAll_mk0)), rfl, bel.frame _, fun h => by cases h⟩
theorem over : Rows.slotReadsRow.holds Try.pinned (OpenSpec.ofChange Rows.slotReadsSpec) :=
  OpenClaim.holds_of_wide 5 Try.f5 rfl rfl rfl rfl rfl rfl rfl ⟨rfl, rfl, rfl, rfl, rfl⟩ rfl rfl rfl rfl rfl (by kernel_rfl) Try.func5 (by kernel_rfl)
    (of_decide_eq_true (by kernel_rfl)) (by unfold Func.isWrapper; first | (rw [if_pos (by decide +kernel)]; kernel_rfl) | (rw [if_neg (by decide +kernel)]; exact ⟨rfl, rfl⟩))
    (fun os started H enc _ => lifted os started H enc)

/-- THE STATEMENT -/
theorem proved : Rows.SlotReadsSaid := over
#print axioms proved
end Go.Proofs.Ytejedkdlehgnpaa.slotReads
