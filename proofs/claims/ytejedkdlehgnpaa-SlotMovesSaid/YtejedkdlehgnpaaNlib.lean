/-
  The contract of strings.ContainsAny at the two bytes that no name has: any text of at most thirteen bytes.
-/
import Derived.Test.YtejedkdlehgnpaaNlay
import Derived.Test.YtejedkdlehgnpaaNmath
import Derived.Laws.Runes
import Derived.Shelf.Small.Utf8
import Derived.WalkMore
import Derived.BigQuiet
namespace Go.Proofs.Ytejedkdlehgnpaa
open Go.RowKit Go.Shelf

/-- the two bytes -/
def two : ByteArray := ⟨#[0, 47]⟩
theorem indexByte_any (s : ByteArray) (c : Int) (w : World) : Calls Try.prog 33 #[.string s, .int .u8 c] w fun e w' => e = .returned (.int .i64 (Lib.indexByte s.data.toList c.toNat.toUInt8)) ∧ w' = w :=
  Any.strings_IndexByte (ρ := lay153_ren) { lay153 with } s c w
theorem validRune_any (r : Int) (w : World) : Calls Try.prog 34 #[.int .i32 r] w fun e w' => e = .returned (.bool (Utf8.valid r)) ∧ w' = w := by
  rw [validRune_eq]
  exact Any.utf8_ValidRune (ρ := lay153_ren) { lay153 with } r w
theorem ascii_any (c : UInt8) (w : World) (h : c.toNat < 128) : Calls Try.prog 29 #[.string ⟨#[0, 47]⟩, .int .i32 (c.toNat : Int)] w fun e w' => (∃ v : Int, e = .returned (.int .i64 v) ∧ (Nm.bad c = true → decide (0 ≤ v) = true) ∧ (Nm.bad c = false → decide (0 ≤ v) = false)) ∧ w = w' :=
  (Any.strings_IndexRune_ascii (ρ := lay153_ren) { lay153 with } ⟨#[0, 47]⟩ (c.toNat : Int) w (by omega) (by omega)).mono fun _ _ ⟨h1, h2⟩ => by
    refine ⟨⟨_, h1, ?_⟩, h2.symm⟩
    have e : ((c.toNat : Int)).toNat.toUInt8 = c := by simp
    rw [e, ← Lib.contains_iff_indexByte]
    show (Nm.bad c = true → ([0, 47] : List UInt8).contains c = true) ∧ (Nm.bad c = false → ([0, 47] : List UInt8).contains c = false)
    unfold Nm.bad
    have : ([0, 47] : List UInt8).contains c = (c == 0 || c == 47) := by rw [List.contains_cons, List.contains_cons, List.contains_nil, Bool.or_false]
    rw [this]
    exact ⟨id, id⟩

set_option maxHeartbeats 2000000 in
set_option maxRecDepth 100000 in
/-- the sign for what is none -/
theorem far_error (w : World) : Calls Try.prog 29 #[.string ⟨#[0, 47]⟩, .int .i32 65533] w fun e w' => e = .returned (.int .i64 (-1)) ∧ Below w.heap.size w w' := by
  go_enter Try.func29, Try.ntmps29
  go_wp2_with fail
  go_loopg [5, 6] 2 (fun g _ _ wx => ∃ i : Nat, i + g = 2 ∧ wx = w.iter ⟨#[0, 47]⟩ i)
  case atStart => exact ⟨0, rfl, rfl⟩
  case round =>
    obtain ⟨i, hig, rfl⟩ := hrel
    have hi : i = 0 ∨ i = 1 ∨ i = 2 := by omega
    rcases hi with rfl | rfl | rfl
    · have hnx := fun ty => run_next_ascii (P := Try.prog) w ⟨#[0, 47]⟩ 0 ty (by decide) (by decide)
      change ∀ ty, _ = Result.ok (Value.tuple #[.bool true, .int .i64 ((0 : Nat) : Int), .int .i32 0]) _ at hnx
      obtain rfl : gk = 2 := by omega
      go_wp2
      go_roundg 1
      case measure => omega
      case rel => exact ⟨1, rfl, rfl⟩
    · have hnx := fun ty => run_next_ascii (P := Try.prog) w ⟨#[0, 47]⟩ 1 ty (by decide) (by decide)
      change ∀ ty, _ = Result.ok (Value.tuple #[.bool true, .int .i64 ((1 : Nat) : Int), .int .i32 47]) _ at hnx
      obtain rfl : gk = 1 := by omega
      go_wp2
      go_roundg 0
      case measure => omega
      case rel => exact ⟨2, rfl, rfl⟩
    · have hnx := fun ty => run_next_end (P := Try.prog) w ⟨#[0, 47]⟩ 2 ty (by decide)
      go_wp2
      go_ret
      exact ⟨rfl, (Below.refl _ _).alloc (Nat.le_refl _) _⟩

set_option maxHeartbeats 2000000 in
set_option maxRecDepth 100000 in
/-- a sign of three or four bytes -/
theorem far_long (r : Int) (w : World) (h1 : 128 ≤ r) (h2 : r ≠ 65533) (hv : Utf8.valid r = true) (hs : 3 ≤ (Utf8.encode r).size) : Calls Try.prog 29 #[.string ⟨#[0, 47]⟩, .int .i32 r] w fun e w' => e = .returned (.int .i64 (-1)) ∧ Below w.heap.size w w' := by
  have hf := encode_facts r hv h1
  have hs4 := hf.2.1
  have HV := Lib.hid hv
  have hr : (r == 65533) = false := beq_eq_false_iff_ne.2 h2
  clear hf hv h2
  go_enter Try.func29, Try.ntmps29
  go_wp2_with (go_at_call 34; refine (validRune_any _ _).mono ?_; rw [HV.out]; rintro e w' ⟨rfl, hw⟩; rw [hw]; clear hw)
  have hcv := fun w => run_convert_int_string (P := Try.prog) w 21 9 .i32 r (by rw [Try.underlying21]; rfl) Try.underlying9
  generalize Utf8.encode r = t at hs hs4 hcv ⊢
  go_step3
  go_wp2
  go_loop [9] (fun i => i = .int .i64 ((t.size : Int) - 1)) (fun _ => 0)
  case atStart => rfl
  case round =>
    subst hrel
    go_wp2
    go_ret
    exact ⟨rfl, Below.refl _ _⟩

theorem below_drewN (w : World) (n : Nat) : Below w.heap.size w (w.drewN n) := ⟨rfl, rfl, rfl, Nat.le_refl _, fun _ _ => rfl⟩
theorem run_slice_two (w : World) : (Instr.sliceAt 9 (.string ⟨#[0, 47]⟩) (some (.int .i64 2)) none none).run Try.prog w = .ok (.string ⟨#[]⟩) w := by kernel_rfl
theorem byte_none (c : UInt8) (w : World) : Calls Try.prog 33 #[.string ⟨#[]⟩, .int .u8 (c.toNat : Int)] w fun e w' => e = .returned (.int .i64 (-1)) ∧ w' = w := indexByte_any ⟨#[]⟩ _ w
theorem two_facts (r : Int) (hv : Utf8.valid r = true) (h1 : 128 ≤ r) (hs : (Utf8.encode r).size = 2) : ∃ (t : ByteArray) (c : UInt8) (h : 1 < t.size), Utf8.encode r = t ∧ t.size = 2 ∧ t[1]'h = c ∧ 128 ≤ c.toNat := by
  have hf := encode_facts r hv h1
  have hx := hf.2.2 (by omega)
  have e : (Utf8.encode r).size - 1 = 1 := by omega
  simp only [e] at hx
  exact ⟨_, _, by omega, rfl, hs, rfl, hx⟩
set_option maxHeartbeats 2000000 in
set_option maxRecDepth 100000 in
/-- a sign of two bytes -/
theorem far_two (r : Int) (w : World) (h1 : 128 ≤ r) (h2 : r ≠ 65533) (hv : Utf8.valid r = true) (hs : (Utf8.encode r).size = 2) : Calls Try.prog 29 #[.string ⟨#[0, 47]⟩, .int .i32 r] w fun e w' => e = .returned (.int .i64 (-1)) ∧ Below w.heap.size w w' := by
  obtain ⟨t, c, hlt, he, hl2, hc, hc128⟩ := two_facts r hv h1 hs
  have HV := Lib.hid hv
  have hr : (r == 65533) = false := beq_eq_false_iff_ne.2 h2
  have hcv := fun w => run_convert_int_string (P := Try.prog) w 21 9 .i32 r (by rw [Try.underlying21]; rfl) Try.underlying9
  rw [he] at hcv
  have hne : ((((⟨#[0, 47]⟩ : ByteArray)[1]'(by decide)).toNat : Int) != (c.toNat : Int)) = true := bne_iff_ne.2 (by show (47 : Int) ≠ _; omega)
  have hl : (t.size : Int) = 2 := by omega
  clear he hs hv h2 hl2
  go_enter Try.func29, Try.ntmps29
  go_wp2_with (go_at_call 34; refine (validRune_any _ _).mono ?_; rw [HV.out]; rintro e w' ⟨rfl, hw⟩; rw [hw]; clear hw)
  go_step3
  go_wp2
  go_loop [9] (fun i => i = .int .i64 1) (fun _ => 0)
  case atStart => rfl
  case round =>
    subst hrel
    go_wp2
    go_step3
    go_wp2
    go_quiet (fail)
    have HB := Lib.hid (below_drewN w nq)
    generalize w.drewN nq = w2 at HB ⊢
    go_wp2
    have hw1 : IntKind.i64.wrap (1 + 1) = 2 := by decide
    have hsl := fun w => run_slice_two w
    go_quiet ((go_at_call 33; refine Calls.quiet_of_same (byte_none c _)))
    go_wp2
    show bodyPost Try.prog Try.f29 (fun e w' => e = .returned (.int .i64 (-1)) ∧ Below w.heap.size w w') Exit.ret _ _
    go_ret
    exact ⟨rfl, HB.out.trans ((below_drewN w2 _).mono HB.out.size)⟩
end Go.Proofs.Ytejedkdlehgnpaa
