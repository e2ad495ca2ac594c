/-
  FileNone, proved: a volume that is none, and a disk that is none, or new, is no volume.
-/
import Derived.Test.YtncmihikpcdgoaaGreatMao
namespace Go.Proofs.YtncmihikpcdgoaaGreat.fileNone
open Go.ChangeShapes Go.WideShapes Go.ChangeAt Go.RowKit
open Dk (zeros zeros_length)
open Ii (Ino)
theorem own : ownKnob Tryz.prog.godebug = none := by kernel_rfl
theorem laidOut : laidOutB Tryz.prog = true := by kernel_rfl
set_option maxRecDepth 100000 in
set_option maxHeartbeats 4000000 in
theorem walk (o : Fop) (pages : Int) (w : World) : Calls Tryz.prog 5 #[opV o, .int .i64 pages] w fun e w' => e = .returned (.bool true) ∧ Below w.heap.size w w' := by
  have S0 := Lib.hid ((Lo.start (L := []) w (by simp)).alloc _ rfl (opL o) 33)
  have HDO : Hid (∀ W, Calls Tryz.prog 10 #[.pointer none, .agg (opL o).toArray] W fun e w' => e = .returned (.tuple #[.int .i64 0, .int .i64 5]) ∧ Below W.heap.size W w') := Lib.hid (fun W => lawDo_nil o)
  unfold opV
  go_enter Tryz.func5, Tryz.ntmps5
  go_wp2_with fail
  refine (fawake_any _).mono ?_
  rintro e w1 ⟨rfl, hb⟩
  have S1 := Lib.hid (S0.out.below hb)
  clear S0 hb
  go_wp2_with (first
    | (with_reducible refine wpList_load_rw opT (S1.out.get 0 _ rfl) rfl rfl (.tmp 2) rfl rfl ?_)
    | (go_at_call 10; (with_reducible refine (HDO.out _).mono ?_); rintro e w2 ⟨rfl, hb⟩; have S2 := Lib.hid (S1.out.below hb); clear hb S1; have c1 := (S2.out.get 0 _ rfl).cell 1 _ rfl))
  have c2 := (S2.out.get 0 _ rfl).cell 2 _ rfl
  have c3 := (S2.out.get 0 _ rfl).cell 3 _ rfl
  have HIN : Hid (∀ W, Calls Tryz.prog 26 #[.pointer none, .int .i64 o.ino] W fun e w' => e = .returned (.tuple #[inoV Ii.zero, .int .i64 5]) ∧ Below W.heap.size W w') := Lib.hid (fun W => vinode_nil W o.ino)
  have HRD : Hid (∀ W, Calls Tryz.prog 27 #[.pointer none, .int .i64 o.ino, .int .i64 o.off, .int .i64 o.n] W fun e w' => e = .returned (.tuple #[.string ⟨#[]⟩, .int .i64 5]) ∧ Below W.heap.size W w') := Lib.hid (fun W => vread_nil W o.ino o.off o.n)
  have E1 : ∀ W : World, (binOp .eql 31 (.agg #[.int .i64 0, .int .i64 0, .int .i64 0, .int .i64 0, .int .i64 0, .int .i64 0, .int .i64 0, .int .i64 0, .int .i64 0, .int .i64 0, .int .i64 0]) (.agg #[.int .i64 0, .int .i64 0, .int .i64 0, .int .i64 0, .int .i64 0, .int .i64 0, .int .i64 0, .int .i64 0, .int .i64 0, .int .i64 0, .int .i64 0])).run Tryz.prog W = .ok (.bool true) W := fun W => run_eql_ino W Ii.zero
  have E0 : ∀ (W : World) (a b : Operand), (eqGuard .eql 31 a b (.agg #[.int .i64 0, .int .i64 0, .int .i64 0, .int .i64 0, .int .i64 0, .int .i64 0, .int .i64 0, .int .i64 0, .int .i64 0, .int .i64 0, .int .i64 0]) (.agg #[.int .i64 0, .int .i64 0, .int .i64 0, .int .i64 0, .int .i64 0, .int .i64 0, .int .i64 0, .int .i64 0, .int .i64 0, .int .i64 0, .int .i64 0])).run Tryz.prog W = .ok () W := fun W a b => run_eqGuard_ino W a b Ii.zero Ii.zero
  refine (HIN.out _).mono ?_
  rintro e w3 ⟨rfl, hb⟩
  have S3 := Lib.hid (S2.out.below hb)
  clear S2 hb c1 c2 c3
  have c1 := (S3.out.get 0 _ rfl).cell 1 _ rfl
  have c2 := (S3.out.get 0 _ rfl).cell 2 _ rfl
  have c3 := (S3.out.get 0 _ rfl).cell 3 _ rfl
  go_wp2_with (first
    | ((with_reducible refine wpList_store_newrow (vs := inoL Ii.zero) inoT ?_ (inoL_one _) rfl (.tmp 8) (.tmp 32) rfl rfl ?_ ?_ ?_); (exact rfl); (exact rfl); (exact rfl); intro W4 hP hB2 hz2; have S4 := Lib.hid (S3.out.made hP hB2 hz2); clear hP hB2 hz2 S3 c1 c2 c3; have c1 := (S4.out.get 0 _ rfl).cell 1 _ rfl; have c2 := (S4.out.get 0 _ rfl).cell 2 _ rfl; have c3 := (S4.out.get 0 _ rfl).cell 3 _ rfl)
    | (go_at_call 27; (with_reducible refine (HRD.out _).mono ?_); rintro e w5 ⟨rfl, hb⟩; have S5 := Lib.hid (S4.out.below hb); clear hb S4 c1 c2 c3)
    | (go_at_call 24; (with_reducible refine (mount_nil _).mono ?_); rintro e w6 ⟨rfl, hb⟩; have S6 := Lib.hid (S5.out.below hb); clear hb S5))
  have HFN : Hid (∀ W, Calls Tryz.prog 32 #[.pointer none, .int .i64 4] W fun e w' => e = .returned (.int .i64 5) ∧ W = w') := Lib.hid (fun W => format_nil W 4)
  have HPN : Hid (∀ W, Calls Tryz.prog 31 #[.pointer none] W fun e w' => e = .returned (.agg #[.int .i64 0, .int .i64 0]) ∧ Below W.heap.size W w') := Lib.hid (fun W => vplan_nil W)
  have hfd : ∀ W : World, (Instr.field 63 (.agg #[.int .i64 0, .int .i64 0]) 0).run Tryz.prog W = .ok (.int .i64 0) W := fun _ => by kernel_rfl
  by_cases hp : 1 ≤ pages ∧ pages ≤ 512
  · obtain ⟨N, rfl⟩ := Int.eq_ofNat_of_zero_le (show 0 ≤ pages by omega)
    refine (new_any N w6 (by omega) (by omega)).mono ?_
    rintro e w7 ⟨rfl, rfl⟩
    have HD := newWorld_disk w6 N (by omega) (by omega)
    have S7 := Lib.hid (S6.out.below (newWorld_below w6 N))
    have HM := Lib.hid (mount_zero HD (fresh_cl (by omega) (by omega)) (fresh_at (by omega)))
    generalize newWorld w6 N = w7 at S7 HM ⊢
    clear HD
    go_wp2_with (first
      | (go_at_call 24; (with_reducible refine HM.out.mono ?_); rintro e w8 ⟨rfl, hb⟩; have S8 := Lib.hid (S7.out.below hb); clear hb S7; have z0 : w8.cell? ⟨w3.heap.size, 0, none⟩ = some (.int .i64 0) := (S8.out.get 1 _ rfl).cell 0 _ rfl; have z1 : w8.cell? ⟨w3.heap.size, 1, none⟩ = some (.int .i64 0) := (S8.out.get 1 _ rfl).cell 1 _ rfl; have z2 : w8.cell? ⟨w3.heap.size, 2, none⟩ = some (.int .i64 0) := (S8.out.get 1 _ rfl).cell 2 _ rfl; have z3 : w8.cell? ⟨w3.heap.size, 3, none⟩ = some (.int .i64 0) := (S8.out.get 1 _ rfl).cell 3 _ rfl; have z4 : w8.cell? ⟨w3.heap.size, 4, none⟩ = some (.int .i64 0) := (S8.out.get 1 _ rfl).cell 4 _ rfl; have z5 : w8.cell? ⟨w3.heap.size, 5, none⟩ = some (.int .i64 0) := (S8.out.get 1 _ rfl).cell 5 _ rfl; have z6 : w8.cell? ⟨w3.heap.size, 6, none⟩ = some (.int .i64 0) := (S8.out.get 1 _ rfl).cell 6 _ rfl; have z7 : w8.cell? ⟨w3.heap.size, 7, none⟩ = some (.int .i64 0) := (S8.out.get 1 _ rfl).cell 7 _ rfl; have z8 : w8.cell? ⟨w3.heap.size, 8, none⟩ = some (.int .i64 0) := (S8.out.get 1 _ rfl).cell 8 _ rfl; have z9 : w8.cell? ⟨w3.heap.size, 9, none⟩ = some (.int .i64 0) := (S8.out.get 1 _ rfl).cell 9 _ rfl; have z10 : w8.cell? ⟨w3.heap.size, 10, none⟩ = some (.int .i64 0) := (S8.out.get 1 _ rfl).cell 10 _ rfl)
      | (go_at_call 25; (with_reducible refine (vfree_nil _).mono ?_); rintro e w9 ⟨rfl, hb⟩; have S9 := Lib.hid (S8.out.below hb); clear hb)
      | (go_at_call 29; (with_reducible refine (vspare_nil _).mono ?_); rintro e w9 ⟨rfl, hb⟩; replace S9 := Lib.hid (S9.out.below hb); clear hb)
      | (go_at_call 22; (with_reducible refine (vsync_nil _).mono ?_); rintro e w9 ⟨rfl, rfl⟩)
      | (go_at_call 30; (with_reducible refine (vover_nil _).mono ?_); rintro e w9 ⟨rfl, rfl⟩)
      | (go_at_call 31; (with_reducible refine (HPN.out _).mono ?_); rintro e w9 ⟨rfl, hb⟩; replace S9 := Lib.hid (S9.out.below hb); clear hb)
      | (go_at_call 32; (with_reducible refine (HFN.out _).mono ?_); rintro e w9 ⟨rfl, rfl⟩))
    go_ret
    exact ⟨rfl, S9.out.bel⟩
  · refine (new_no pages w6 (by omega)).mono ?_
    rintro e w7 ⟨rfl, rfl⟩
    have S7 := S6
    have HM := Lib.hid (mount_nil w6)
    go_wp2_with (first
      | (go_at_call 24; (with_reducible refine HM.out.mono ?_); rintro e w8 ⟨rfl, hb⟩; have S8 := Lib.hid (S7.out.below hb); clear hb S7; have z0 : w8.cell? ⟨w3.heap.size, 0, none⟩ = some (.int .i64 0) := (S8.out.get 1 _ rfl).cell 0 _ rfl; have z1 : w8.cell? ⟨w3.heap.size, 1, none⟩ = some (.int .i64 0) := (S8.out.get 1 _ rfl).cell 1 _ rfl; have z2 : w8.cell? ⟨w3.heap.size, 2, none⟩ = some (.int .i64 0) := (S8.out.get 1 _ rfl).cell 2 _ rfl; have z3 : w8.cell? ⟨w3.heap.size, 3, none⟩ = some (.int .i64 0) := (S8.out.get 1 _ rfl).cell 3 _ rfl; have z4 : w8.cell? ⟨w3.heap.size, 4, none⟩ = some (.int .i64 0) := (S8.out.get 1 _ rfl).cell 4 _ rfl; have z5 : w8.cell? ⟨w3.heap.size, 5, none⟩ = some (.int .i64 0) := (S8.out.get 1 _ rfl).cell 5 _ rfl; have z6 : w8.cell? ⟨w3.heap.size, 6, none⟩ = some (.int .i64 0) := (S8.out.get 1 _ rfl).cell 6 _ rfl; have z7 : w8.cell? ⟨w3.heap.size, 7, none⟩ = some (.int .i64 0) := (S8.out.get 1 _ rfl).cell 7 _ rfl; have z8 : w8.cell? ⟨w3.heap.size, 8, none⟩ = some (.int .i64 0) := (S8.out.get 1 _ rfl).cell 8 _ rfl; have z9 : w8.cell? ⟨w3.heap.size, 9, none⟩ = some (.int .i64 0) := (S8.out.get 1 _ rfl).cell 9 _ rfl; have z10 : w8.cell? ⟨w3.heap.size, 10, none⟩ = some (.int .i64 0) := (S8.out.get 1 _ rfl).cell 10 _ rfl)
      | (go_at_call 25; (with_reducible refine (vfree_nil _).mono ?_); rintro e w9 ⟨rfl, hb⟩; have S9 := Lib.hid (S8.out.below hb); clear hb)
      | (go_at_call 29; (with_reducible refine (vspare_nil _).mono ?_); rintro e w9 ⟨rfl, hb⟩; replace S9 := Lib.hid (S9.out.below hb); clear hb)
      | (go_at_call 22; (with_reducible refine (vsync_nil _).mono ?_); rintro e w9 ⟨rfl, rfl⟩)
      | (go_at_call 30; (with_reducible refine (vover_nil _).mono ?_); rintro e w9 ⟨rfl, rfl⟩)
      | (go_at_call 31; (with_reducible refine (HPN.out _).mono ?_); rintro e w9 ⟨rfl, hb⟩; replace S9 := Lib.hid (S9.out.below hb); clear hb)
      | (go_at_call 32; (with_reducible refine (HFN.out _).mono ?_); rintro e w9 ⟨rfl, rfl⟩))
    go_ret
    exact ⟨rfl, S9.out.bel⟩
set_option maxRecDepth 100000 in
theorem lifted (os : Os) (started : os.Started) (H : Type) (enc : TypeId × Value → H) :
    ReturnsInHanded {} Tryz.checked os 5 .any (Rows.fileNoneSpec.pre6 enc Tryz.prog Tryz.f5 Rows.fileNoneRow.domain false) (Rows.fileNoneSpec.post enc Tryz.prog Tryz.f5 false true false false) := by
  refine returnsInHanded_of_change (C := Tryz.checked) own started (by kernel_rfl) Tryz.func5
    (ChangeSpec.witness6 (enc := enc) (C := Tryz.checked) false ⟨#[], #[.agg #[.int .i64 0, .int .i64 0, .int .i64 0, .int .i64 0, .string ⟨#[]⟩, .int .i64 0, .int .i64 0, .int .i64 0, .int .i64 0, .int .i64 0, .int .i64 0, .int .i64 0, .int .i64 0, .int .i64 0, .int .i64 0, .int .i64 0], .int .i64 0], []⟩ 8 (by kernel_rfl) (by kernel_rfl) (by kernel_rfl) (by kernel_rfl)) ?_
  intro W base args ds gs before hval0 hW hcnd _
  have hval : ∀ (j : Nat) t v, Tryz.f5.params[j]? = some t → args[j]? = some v → Value.okWide Tryz.prog W .any base t v := hval0
  have hW' := hW
  obtain ⟨p, q, hA0, hV, rfl, hfz, hnd⟩ := hW
  have hA : DataW.TrodAll enc Tryz.prog W 0 (fun _ => true) true Tryz.f5.params.toList args.toList ds p := hA0
  rw [Tryz.params5] at hA hval
  obtain ⟨v0, vs0, d0, ds0, p0, q0, hargs, rfl, rfl, h0, r0⟩ := trodAll_cons hA
  obtain ⟨v1, vs1, d1, ds1, p1, q1, rfl, rfl, rfl, h1, r1⟩ := trodAll_cons r0
  obtain ⟨rfl, rfl, rfl⟩ := trodAll_nil r1
  obtain rfl : args = #[v0, v1] := by cases args; simp_all
  obtain ⟨rfl, rfl⟩ := trodVars_none hV
  have k0 := h0
  have lt0 : ∀ x ∈ p0, x.block < W.heap.size := by obtain ⟨m, hm⟩ := k0; exact DataW.trod_lt m _ _ _ hm
  have k1 := h1
  have lt1 : ∀ x ∈ p1, x.block < W.heap.size := by obtain ⟨m, hm⟩ := k1; exact DataW.trod_lt m _ _ _ hm
  obtain ⟨o0, rfl, w0⟩ := open_op (hval 0 33 v0 rfl rfl) h0
  obtain ⟨x1, rfl, ed1, ep1, w1⟩ := open_int Tryz.underlying3 (hval 1 3 v1 rfl rfl) h1
  clear hA0 hval0
  refine (walk o0 x1 W).mono fun e W' ⟨he, bel⟩ => ?_
  subst he
  exact ⟨_, rfl, _, _, _, [], _, [], hW', trodAll_mk1 (shut_bool Tryz.underlying4 _), (trodAll_cons_mk (Below.trod laidOut (by kernel_rfl) (of_decide_eq_true (by kernel_rfl)) k0 bel lt0) (trodAll_cons_mk (Below.trod laidOut (by kernel_rfl) (of_decide_eq_true (by kernel_rfl)) k1 bel lt1) trodAll_mk0)), rfl, bel.frame _, fun h => by cases h⟩
theorem over : Rows.fileNoneRow.holds Tryz.pinned (OpenSpec.ofChange Rows.fileNoneSpec) :=
  OpenClaim.holds_of_wide 5 Tryz.f5 rfl rfl rfl rfl rfl rfl rfl ⟨rfl, rfl, rfl, rfl, rfl⟩ rfl rfl rfl rfl rfl (by kernel_rfl) Tryz.func5 (by kernel_rfl)
    (of_decide_eq_true (by kernel_rfl)) (by unfold Func.isWrapper; first | (rw [if_pos (by decide +kernel)]; kernel_rfl) | (rw [if_neg (by decide +kernel)]; exact ⟨rfl, rfl⟩))
    (fun os started H enc _ => lifted os started H enc)
/-- THE STATEMENT -/
theorem proved : Rows.FileNoneSaid := over
#print axioms proved
end Go.Proofs.YtncmihikpcdgoaaGreat.fileNone
