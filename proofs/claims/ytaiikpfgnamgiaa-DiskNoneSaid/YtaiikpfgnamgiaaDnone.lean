/-
  Proved: DiskNone returns true for every number and every page: a disk that isn't there is down.
  Conditions: none beside the statement's own.
-/
import Derived.Test.YtaiikpfgnamgiaaDopen
namespace Go.Proofs.Ytaiikpfgnamgiaa.diskNone
open Go.ChangeShapes Go.WideShapes Go.ChangeAt Go.RowKit
open Dk (zeros zeros_length)

set_option maxHeartbeats 4000000 in
theorem walk (n : Int) (p : List UInt8) (w : World) (hp : p.length = 64) :
    Calls Try.prog 5 #[.int .i64 n, pageV p] w fun e w' => e = .returned (.bool true) ∧ Below w.heap.size w w' := by
  have HQ0 := Lib.hid (pageAt_new w p 31 hp)
  have HB0 : Hid (Below w.heap.size w (w.alloc (.cells (byteVals p).toArray 31))) := Lib.hid ((Below.refl _ _).alloc (Nat.le_refl _) _)
  have HE1 := fun (x y : Operand) (w : World) => run_eqGuard_zero w x y zeros
  have HE2 := fun (w : World) => run_eql_zero w zeros zeros_length
  rw [zeroCells_def] at HE1 HE2
  have HWR := Lib.hid (fun (W : World) => write_nil n p W)
  have HRD := Lib.hid (fun (W : World) => read_nil n W)
  have HLS := Lib.hid (fun (W : World) => lasts_nil n W)
  clear hp
  unfold pageV
  go_enter Try.func5, Try.ntmps5
  go_wp2_with fail
  generalize w.alloc (.cells (byteVals p).toArray 31) = w1 at HQ0 HB0 ⊢
  refine (awake_any _).mono ?_
  rintro e w2 ⟨rfl, hb2⟩
  have HQ2 := Lib.hid (HQ0.out.below hb2 HQ0.out.lt)
  have HB2 := Lib.hid (HB0.out.trans (hb2.mono HB0.out.size))
  clear HQ0 HB0 hb2
  go_wp2_with fail
  refine (fuse_nil _ _).mono ?_
  rintro e w' ⟨rfl, rfl⟩
  go_wp2_with fail
  have HQ3 := Lib.hid (HQ2.out.alloc (.cells #[.int .u8 1, .int .u8 2] 5))
  have HB3 := Lib.hid (HB2.out.alloc HB2.out.size (.cells #[.int .u8 1, .int .u8 2] 5))
  generalize w2.alloc (.cells #[.int .u8 1, .int .u8 2] 5) = w3 at HQ3 HB3 ⊢
  clear HQ2 HB2
  refine (crash_nil _ _ _ _).mono ?_
  rintro e w' ⟨rfl, rfl⟩
  go_wp2_with fail
  refine (HRD.out _).mono ?_
  rintro e w4 ⟨rfl, hb4⟩
  have HQ4 := Lib.hid (HQ3.out.below hb4 HQ3.out.lt)
  have HB4 := Lib.hid (HB3.out.trans (hb4.mono HB3.out.size))
  clear HQ3 HB3 hb4
  go_wp2_with (first
    | ((with_reducible refine wpList_store_new rfl (.tmp 6) (.tmp 20) rfl rfl ?_ ?_ zeros_length ?_); (exact rfl); (exact rfl); intro W5 hP5 hB5 hz5; have HQ5 := Lib.hid (HQ4.out.below hB5 HQ4.out.lt); have HB5 := Lib.hid (HB4.out.trans (hB5.mono HB4.out.size)); have HP5 := Lib.hid hP5; clear hB5 hz5 hP5)
    | (with_reducible refine wpList_load_page HQ5.out rfl (.tmp 3) rfl rfl ?_)
    | (go_at_call 10; refine (HWR.out _).mono ?_; rintro e w6 ⟨rfl, hb6⟩; have HB6 := Lib.hid (HB5.out.trans (hb6.mono HB5.out.size)); have HP6 := Lib.hid (HP5.out.below hb6 HP5.out.lt); clear hb6)
    | (with_reducible refine wpList_load_guarded HP6.out (.tmp 6) rfl rfl (by kernel_rfl) ?_)
    | (go_at_call 14; refine (flush_nil _).mono ?_; rintro e w' ⟨rfl, rfl⟩)
    | (go_at_call 20; refine (pages_nil _).mono ?_; rintro e w' ⟨rfl, rfl⟩)
    | (go_at_call 21; refine (cached_nil _).mono ?_; rintro e w' ⟨rfl, rfl⟩)
    | (go_at_call 23; refine (down_nil _).mono ?_; rintro e w' ⟨rfl, rfl⟩)
    | (go_at_call 24; refine (HLS.out _).mono ?_; rintro e w7 ⟨rfl, hb7⟩))
  go_ret
  exact ⟨ret_bool (by simp), HB6.out.trans (hb7.mono HB6.out.size)⟩

set_option maxRecDepth 100000 in
theorem lifted (os : Os) (started : os.Started) (H : Type) (enc : TypeId × Value → H) :
    ReturnsInHanded {} Try.checked os 5 .any (Rows.diskNoneSpec.pre6 enc Try.prog Try.f5 Rows.diskNoneRow.domain false) (Rows.diskNoneSpec.post enc Try.prog Try.f5 false true false false) := by
  refine returnsInHanded_of_change (C := Try.checked) own started (by kernel_rfl) Try.func5
    (ChangeSpec.witness6 (enc := enc) (C := Try.checked) false ⟨#[], #[.int .i64 0, .agg zeroCells], []⟩ 8 (by kernel_rfl) (by kernel_rfl) (by kernel_rfl) (by kernel_rfl)) ?_
  intro W base args ds gs before hval0 hW hcnd _
  have hval : ∀ (j : Nat) t v, Try.f5.params[j]? = some t → args[j]? = some v → Value.okWide Try.prog W .any base t v := hval0
  have hW' := hW
  obtain ⟨p, q, hA0, hV, rfl, hfz, hnd⟩ := hW
  have hA : DataW.TrodAll enc Try.prog W 0 (fun _ => true) true Try.f5.params.toList args.toList ds p := hA0
  rw [Try.params5] at hA hval
  obtain ⟨v0, vs0, d0, ds0, p0, q0, hargs, rfl, rfl, h0, r0⟩ := trodAll_cons hA
  obtain ⟨v1, vs1, d1, ds1, p1, q1, rfl, rfl, rfl, h1, r1⟩ := trodAll_cons r0
  obtain ⟨rfl, rfl, rfl⟩ := trodAll_nil r1
  obtain rfl : args = #[v0, v1] := by cases args; simp_all
  obtain ⟨rfl, rfl⟩ := trodVars_none hV
  have k0 := h0
  have lt0 : ∀ x ∈ p0, x.block < W.heap.size := by obtain ⟨m, hm⟩ := k0; exact DataW.trod_lt m _ _ _ hm
  have k1 := h1
  have lt1 : ∀ x ∈ p1, x.block < W.heap.size := by obtain ⟨m, hm⟩ := k1; exact DataW.trod_lt m _ _ _ hm
  obtain ⟨x0, rfl, ed0, ep0, w0⟩ := open_int Try.underlying3 (hval 0 3 v0 rfl rfl) h0
  obtain ⟨x1, hx1, rfl⟩ := open_page (hval 1 31 v1 rfl rfl) h1
  clear hA0 hval0
  refine (walk x0 x1 W hx1).mono fun e W' ⟨he, bel⟩ => ?_
  subst he
  exact ⟨_, rfl, _, _, _, [], _, [], hW', trodAll_mk1 (shut_bool Try.underlying4 _), (trodAll_cons_mk (Below.trod laidOut (by kernel_rfl) (of_decide_eq_true (by kernel_rfl)) k0 bel lt0) (trodAll_cons_mk (Below.trod laidOut (by kernel_rfl) (of_decide_eq_true (by kernel_rfl)) k1 bel lt1) trodAll_mk0)), rfl, bel.frame _, fun h => by cases h⟩

theorem over : Rows.diskNoneRow.holds Try.pinned (OpenSpec.ofChange Rows.diskNoneSpec) :=
  OpenClaim.holds_of_wide 5 Try.f5 rfl rfl rfl rfl rfl rfl rfl ⟨rfl, rfl, rfl, rfl, rfl⟩ rfl rfl rfl rfl rfl (by kernel_rfl) Try.func5 (by kernel_rfl)
    (of_decide_eq_true (by kernel_rfl)) (by unfold Func.isWrapper; first | (rw [if_pos (by decide +kernel)]; kernel_rfl) | (rw [if_neg (by decide +kernel)]; exact ⟨rfl, rfl⟩))
    (fun os started H enc _ => lifted os started H enc)

/-- THE STATEMENT -/
theorem proved : Rows.DiskNoneSaid := over
#print axioms proved
end Go.Proofs.Ytaiikpfgnamgiaa.diskNone
