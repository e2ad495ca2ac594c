/-
  StoreNone: whatever the input, the law returns true, and each argument reads behind the call as it read before. No conditions.
-/
import Derived.Test.YteedglcbodpcdaaMsd
namespace Go.Proofs.Yteedglcbodpcdaa.storeNone
open Go.ChangeShapes Go.WideShapes Go.ChangeAt Go.RowKit
open Dk (zeros zeros_length)

def listN (n : Nat) : Nat := (n + 31) / 32
set_option maxRecDepth 100000 in
theorem lists_ref (n : Nat) (hn : n ≤ 1000) (w : World) : Calls Try.prog 33 #[.int .i64 (n : Int)] w fun e w' => e = .returned (.int .i64 (listN n : Int)) ∧ w = w' := by
  go_enter Try.func33, Try.ntmps33
  go_wp2
  go_loopw [3] (fun i wr => ∃ k : Nat, k ≤ listN n ∧ i = .int .i64 k ∧ wr = w) (fun i _ => listN n - (intOf i).toNat)
  case atStart => exact ⟨0, Nat.zero_le _, rfl, rfl⟩
  case round =>
    obtain ⟨k, hk, rfl, rfl⟩ := hrel
    unfold listN at hk
    by_cases hlt : k * 32 < n
    · have h1 : (k : Int) * 32 < (n : Int) := by omega
      go_wp2
      go_roundw
      case rel => exact ⟨k + 1, by unfold listN; omega, by go_num, trivial⟩
      case measure => simp [intOf, listN]; omega
    · have h1 : ¬ ((k : Int) * 32 < (n : Int)) := by omega
      go_wp2
      go_ret
      refine ⟨?_, rfl⟩
      have : k = listN n := by unfold listN; omega
      rw [← this]; rfl
set_option maxRecDepth 100000 in
theorem room_ref0 (w : World) : Calls Try.prog 21 #[.int .i64 0] w fun e w' => e = .returned (.int .i64 0) ∧ w = w' := by
  go_enter Try.func21, Try.ntmps21
  go_wp2
  go_loopw [3, 4] (fun best i wr => ∃ k : Nat, 1 ≤ k ∧ k ≤ 513 ∧ best = .int .i64 0 ∧ i = .int .i64 k ∧ wr = w) (fun _ i _ => 513 - (intOf i).toNat)
  case atStart => exact ⟨1, by omega, by omega, rfl, rfl, rfl⟩
  case round =>
    obtain ⟨k, hk1, hk, rfl, rfl, rfl⟩ := hrel
    by_cases hlt : k ≤ 512
    · have h1 : (k : Int) ≤ 512 := by omega
      have HL := Lib.hid (lists_ref k (by omega) wr)
      have h2 : listN k ≤ 1000 := by unfold listN; omega
      generalize listN k = L at HL h2
      have h3 : ¬ (1 + (L : Int) + (k : Int) ≤ 0) := by omega
      go_wp2_with (go_at_call 33; refine HL.out.mono ?_; rintro e w' ⟨rfl, rfl⟩)
      go_roundw
      case rel => exact ⟨k + 1, by omega, by omega, rfl, by go_num, trivial⟩
      case measure => simp [intOf]; omega
    · have h1 : ¬ ((k : Int) ≤ 512) := by omega
      go_wp2
      go_ret
      exact ⟨rfl, rfl⟩
set_option maxRecDepth 100000 in
set_option maxHeartbeats 4000000 in
theorem walk (n : Int) (p : List UInt8) (w : World) (hp : p.length = 64) :
    Calls Try.prog 4 #[.int .i64 n, pageV p] w fun e w' => e = .returned (.bool true) ∧ Below w.heap.size w w' := by
  have HQ0 := Lib.hid (pageAt_new w p 35 hp)
  have HB0 : Hid (Below w.heap.size w (w.alloc (.cells (byteVals p).toArray 35))) := Lib.hid ((Below.refl _ _).alloc (Nat.le_refl _) _)
  have HE1 := fun (x y : Operand) (w : World) => run_eqGuard_zero w x y zeros
  have HE2 := fun (w : World) => run_eql_zero w zeros zeros_length
  rw [zeroCells_def] at HE1 HE2
  have HPT := Lib.hid (fun (W : World) => sput_nil n p W)
  have HRD := Lib.hid (fun (W : World) => sread_nil n W)
  clear hp
  unfold pageV
  go_enter Try.func4, Try.ntmps4
  go_wp2_with fail
  generalize w.alloc (.cells (byteVals p).toArray 35) = w1 at HQ0 HB0 ⊢
  refine (awake_any _).mono ?_
  rintro e w2 ⟨rfl, hb2⟩
  have HQ2 := Lib.hid (HQ0.out.below hb2 HQ0.out.lt)
  have HB2 := Lib.hid (HB0.out.trans (hb2.mono HB0.out.size))
  clear HQ0 HB0 hb2
  go_wp2_with fail
  refine (sdrop_nil _).mono ?_
  rintro e w' ⟨rfl, rfl⟩
  go_wp2_with fail
  refine (HRD.out _).mono ?_
  rintro e w4 ⟨rfl, hb4⟩
  have HQ4 := Lib.hid (HQ2.out.below hb4 HQ2.out.lt)
  have HB4 := Lib.hid (HB2.out.trans (hb4.mono HB2.out.size))
  clear HQ2 HB2 hb4
  go_wp2_with (first
    | ((with_reducible refine wpList_store_new rfl (.tmp 6) (.tmp 16) rfl rfl ?_ ?_ zeros_length ?_); (exact rfl); (exact rfl); intro W5 hP5 hB5 hz5; have HQ5 := Lib.hid (HQ4.out.below hB5 HQ4.out.lt); have HB5 := Lib.hid (HB4.out.trans (hB5.mono HB4.out.size)); have HP5 := Lib.hid hP5; clear hB5 hz5 hP5)
    | (with_reducible refine wpList_load_page HP5.out rfl (.tmp 6) rfl rfl ?_)
    | (with_reducible refine wpList_load_guarded HQ5.out (.tmp 3) rfl rfl (by kernel_rfl) ?_)
    | (go_at_call 11; refine (HPT.out _).mono ?_; rintro e w6 ⟨rfl, hb6⟩; have HB6 := Lib.hid (HB5.out.trans (hb6.mono HB5.out.size)); clear hb6)
    | (go_at_call 13; refine (skeep_nil _).mono ?_; rintro e w' ⟨rfl, rfl⟩)
    | (go_at_call 15; refine (ssync_nil _).mono ?_; rintro e w' ⟨rfl, rfl⟩)
    | (go_at_call 18; refine (sstep_nil _).mono ?_; rintro e w' ⟨rfl, rfl⟩)
    | (go_at_call 19; refine (sgroup_nil _).mono ?_; rintro e w' ⟨rfl, rfl⟩)
    | (go_at_call 20; refine (sover_nil _).mono ?_; rintro e w' ⟨rfl, rfl⟩)
    | (go_at_call 21; refine (room_ref0 _).mono ?_; rintro e w' ⟨rfl, rfl⟩))
  go_ret
  exact ⟨ret_bool (by simp), HB6.out⟩

set_option maxRecDepth 100000 in
theorem lifted (os : Os) (started : os.Started) (H : Type) (enc : TypeId × Value → H) :
    ReturnsInHanded {} Try.checked os 4 .any (Rows.storeNoneSpec.pre6 enc Try.prog Try.f4 Rows.storeNoneRow.domain false) (Rows.storeNoneSpec.post enc Try.prog Try.f4 false true false false) := by
  refine returnsInHanded_of_change (C := Try.checked) own started (by kernel_rfl) Try.func4
    (ChangeSpec.witness6 (enc := enc) (C := Try.checked) false ⟨#[], #[.int .i64 0, .agg zeroCells], []⟩ 8 (by kernel_rfl) (by kernel_rfl) (by kernel_rfl) (by kernel_rfl)) ?_
  intro W base args ds gs before hval0 hW hcnd _
  have hval : ∀ (j : Nat) t v, Try.f4.params[j]? = some t → args[j]? = some v → Value.okWide Try.prog W .any base t v := hval0
  have hW' := hW
  obtain ⟨p, q, hA0, hV, rfl, hfz, hnd⟩ := hW
  have hA : DataW.TrodAll enc Try.prog W 0 (fun _ => true) true Try.f4.params.toList args.toList ds p := hA0
  rw [Try.params4] at hA hval
  obtain ⟨v0, vs0, d0, ds0, p0, q0, hargs, rfl, rfl, h0, r0⟩ := trodAll_cons hA
  obtain ⟨v1, vs1, d1, ds1, p1, q1, rfl, rfl, rfl, h1, r1⟩ := trodAll_cons r0
  obtain ⟨rfl, rfl, rfl⟩ := trodAll_nil r1
  obtain rfl : args = #[v0, v1] := by cases args; simp_all
  obtain ⟨rfl, rfl⟩ := trodVars_none hV
  have k0 := h0
  have lt0 : ∀ x ∈ p0, x.block < W.heap.size := by obtain ⟨m, hm⟩ := k0; exact DataW.trod_lt m _ _ _ hm
  have k1 := h1
  have lt1 : ∀ x ∈ p1, x.block < W.heap.size := by obtain ⟨m, hm⟩ := k1; exact DataW.trod_lt m _ _ _ hm
  obtain ⟨x0, rfl, ed0, ep0, w0⟩ := open_int Try.underlying3 (hval 0 3 v0 rfl rfl) h0
  obtain ⟨x1, hx1, rfl⟩ := open_page (hval 1 35 v1 rfl rfl) h1
  clear hA0 hval0
  refine (walk x0 x1 W hx1).mono fun e W' ⟨he, bel⟩ => ?_
  subst he
  exact ⟨_, rfl, _, _, _, [], _, [], hW', trodAll_mk1 (shut_bool Try.underlying4 _), (trodAll_cons_mk (Below.trod laidOut (by kernel_rfl) (of_decide_eq_true (by kernel_rfl)) k0 bel lt0) (trodAll_cons_mk (Below.trod laidOut (by kernel_rfl) (of_decide_eq_true (by kernel_rfl)) k1 bel lt1) trodAll_mk0)), rfl, bel.frame _, fun h => by cases h⟩

theorem over : Rows.storeNoneRow.holds Try.pinned (OpenSpec.ofChange Rows.storeNoneSpec) :=
  OpenClaim.holds_of_wide 4 Try.f4 rfl rfl rfl rfl rfl rfl rfl ⟨rfl, rfl, rfl, rfl, rfl⟩ rfl rfl rfl rfl rfl (by kernel_rfl) Try.func4 (by kernel_rfl)
    (of_decide_eq_true (by kernel_rfl)) (by unfold Func.isWrapper; first | (rw [if_pos (by decide +kernel)]; kernel_rfl) | (rw [if_neg (by decide +kernel)]; exact ⟨rfl, rfl⟩))
    (fun os started H enc _ => lifted os started H enc)

/-- THE STATEMENT -/
theorem proved : Rows.StoreNoneSaid := over
#print axioms proved
end Go.Proofs.Yteedglcbodpcdaa.storeNone
