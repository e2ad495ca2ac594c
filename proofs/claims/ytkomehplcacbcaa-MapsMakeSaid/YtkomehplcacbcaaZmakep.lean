/-
  Proved: MapsMake returns true for all specs and keys: a set has the maps of its specs, each for itself, or is none; all entries are counted, and cleared together.
  Conditions: none beside the statement's own.
-/
import Derived.Test.YtkomehplcacbcaaZmk3
import Derived.Test.YtkomehplcacbcaaZmk4
namespace Go.Proofs.Ytkomehplcacbcaa.mapsMake
open Go.ChangeShapes Go.WideShapes Go.ChangeAt Go.RowKit
open Go.ChangeMaps (open_string)

set_option maxHeartbeats 2000000 in
theorem make_walk (A : Option Addr) (n c : Nat) (xs : List (Int × Int)) (KA : Option Addr) (m kc : Nat) (ks : List Int) (w : World) (h : SpecsAt w A n xs) (hk : IntsAt w KA m ks) :
    Calls Try.prog 3 #[.slice A n c, .slice KA m kc] w fun e w' => e = .returned (.bool true) ∧ Below w.heap.size w w' := by
  by_cases hl : 20 < n ∨ 40 < m
  · exact mk_long A n c KA m kc w hl
  · by_cases hb : n ≤ 4 ∧ xs.all goodSp = true
    · by_cases h0 : n = 0
      · subst h0
        exact mk_zero A c xs KA m kc ks w h hk (by omega)
      · exact mk_good A n c xs KA m kc ks w h hk (by omega) hb.1 (by omega) hb.2
    · exact mk_bad A n c xs KA m kc ks w h hk (by omega) (by omega) hb
set_option maxRecDepth 100000 in
theorem lifted (os : Os) (started : os.Started) (H : Type) (enc : TypeId × Value → H) :
    ReturnsInHanded {} Try.checked os 3 .any (Rows.mapsMakeSpec.pre6 enc Try.prog Try.f3 Rows.mapsMakeRow.domain false) (Rows.mapsMakeSpec.post enc Try.prog Try.f3 false true false false) := by
  refine returnsInHanded_of_change (C := Try.checked) own started (by kernel_rfl) Try.func3
    (ChangeSpec.witness6 (enc := enc) (C := Try.checked) false ⟨#[], #[.slice none 0 0, .slice none 0 0], []⟩ 8 (by kernel_rfl) (by kernel_rfl) (by kernel_rfl) (by kernel_rfl)) ?_
  intro W base args ds gs before hval0 hW hcnd _
  have hval : ∀ (j : Nat) t v, Try.f3.params[j]? = some t → args[j]? = some v → Value.okWide Try.prog W .any base t v := hval0
  have hW' := hW
  obtain ⟨p, q, hA0, hV, rfl, hfz, hnd⟩ := hW
  have hA : DataW.TrodAll enc Try.prog W 0 (fun _ => true) true Try.f3.params.toList args.toList ds p := hA0
  rw [Try.params3] at hA hval
  obtain ⟨v0, vs0, d0, ds0, p0, q0, hargs, rfl, rfl, h0, r0⟩ := trodAll_cons hA
  obtain ⟨v1, vs1, d1, ds1, p1, q1, rfl, rfl, rfl, h1, r1⟩ := trodAll_cons r0
  obtain ⟨rfl, rfl, rfl⟩ := trodAll_nil r1
  obtain rfl : args = #[v0, v1] := by cases args; simp_all
  obtain ⟨rfl, rfl⟩ := trodVars_none hV
  have k0 := h0
  have lt0 : ∀ x ∈ p0, x.block < W.heap.size := by obtain ⟨m, hm⟩ := k0; exact DataW.trod_lt m _ _ _ hm
  have k1 := h1
  have lt1 : ∀ x ∈ p1, x.block < W.heap.size := by obtain ⟨m, hm⟩ := k1; exact DataW.trod_lt m _ _ _ hm
  obtain ⟨A0, n0, c0, xs0, rfl, hc0, hi0⟩ := open_specs (hval 0 22 v0 rfl rfl) h0
  obtain ⟨A1, n1, c1, xs1, rfl, hc1, hi1⟩ := open_ints1 (hval 1 23 v1 rfl rfl) h1
  clear hA0 hval0
  refine (make_walk A0 n0 c0 xs0 A1 n1 c1 xs1 W hi0 hi1).mono fun e W' ⟨he, bel⟩ => ?_
  subst he
  exact ⟨_, rfl, _, _, _, [], _, [], hW', trodAll_mk1 (shut_bool Try.underlying4 _), (trodAll_cons_mk (Below.trod laidOut (by kernel_rfl) (of_decide_eq_true (by kernel_rfl)) k0 bel lt0) (trodAll_cons_mk (Below.trod laidOut (by kernel_rfl) (of_decide_eq_true (by kernel_rfl)) k1 bel lt1) trodAll_mk0)), rfl, bel.frame _, fun h => by cases h⟩
theorem over : Rows.mapsMakeRow.holds Try.pinned (OpenSpec.ofChange Rows.mapsMakeSpec) :=
  OpenClaim.holds_of_wide 3 Try.f3 rfl rfl rfl rfl rfl rfl rfl ⟨rfl, rfl, rfl, rfl, rfl⟩ rfl rfl rfl rfl rfl (by kernel_rfl) Try.func3 (by kernel_rfl)
    (of_decide_eq_true (by kernel_rfl)) (by unfold Func.isWrapper; first | (rw [if_pos (by decide +kernel)]; kernel_rfl) | (rw [if_neg (by decide +kernel)]; exact ⟨rfl, rfl⟩))
    (fun os started H enc _ => lifted os started H enc)

/-- THE STATEMENT -/
theorem proved : Rows.MapsMakeSaid := over
#print axioms proved
end Go.Proofs.Ytkomehplcacbcaa.mapsMake
