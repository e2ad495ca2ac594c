/-
  The library's search for one of some bytes, laid at this program: each field is a fact of the program.
-/
import Derived.Test.YtejedkdlehgnpaaLmem
import Derived.Shelf.Strings.IndexAnyAll
namespace Go.Proofs.Ytejedkdlehgnpaa
open Go.Shelf Go.RowKit
def lay153_ren : Go.Shelf.Ren := ⟨fun | 153 => 26 | 152 => 29 | 226 => 30 | 227 => 31 | 228 => 32 | 137 => 33 | 119 => 34 | 224 => 35 | 225 => 36 | 217 => 37 | 266 => 38 | n => n, fun | 9 => 9 | 3 => 3 | 4 => 4 | 5 => 5 | 21 => 21 | 117 => 63 | 116 => 62 | 0 => 0 | 46 => 59 | 124 => 69 | n => n, fun | n => n⟩
theorem lay153 : Go.Proofs.Lays.n153 Try.prog lay153_ren := {
  mixed := by kernel_rfl
  f119 := Try.func34.trans (congrArg some (by kernel_rfl))
  f137 := Try.func33.trans (congrArg some (by kernel_rfl))
  f152 := Try.func29.trans (congrArg some (by kernel_rfl))
  f153 := Try.func26.trans (congrArg some (by kernel_rfl))
  f217 := Try.func37.trans (congrArg some (by kernel_rfl))
  f224 := Try.func35.trans (congrArg some (by kernel_rfl))
  f225 := Try.func36.trans (congrArg some (by kernel_rfl))
  f226 := Try.func30.trans (congrArg some (by kernel_rfl))
  f227 := Try.func31.trans (congrArg some (by kernel_rfl))
  f228 := Try.func32.trans (congrArg some (by kernel_rfl))
  f266 := Try.func38.trans (congrArg some (by kernel_rfl))
  t0 := Try.underlying0
  a0 := Try.isAgg0
  z0 := Try.sizeOf0
  v0 := Try.zeroValue0
  t3 := Try.underlying3
  a3 := Try.isAgg3
  z3 := Try.sizeOf3
  v3 := Try.zeroValue3
  t4 := Try.underlying4
  a4 := Try.isAgg4
  z4 := Try.sizeOf4
  v4 := Try.zeroValue4
  t5 := Try.underlying5
  a5 := Try.isAgg5
  z5 := Try.sizeOf5
  v5 := Try.zeroValue5
  t9 := Try.underlying9
  a9 := Try.isAgg9
  z9 := Try.sizeOf9
  v9 := Try.zeroValue9
  t21 := Try.underlying21
  a21 := Try.isAgg21
  z21 := Try.sizeOf21
  v21 := Try.zeroValue21
  t46 := Try.underlying59
  a46 := Try.isAgg59
  z46 := Try.sizeOf59
  v46 := Try.zeroValue59
  t116 := Try.underlying62
  a116 := Try.isAgg62
  z116 := Try.sizeOf62
  t117 := Try.underlying63
  a117 := Try.isAgg63
  z117 := Try.sizeOf63
  v117 := Try.zeroValue63
  t124 := Try.underlying69
  a124 := Try.isAgg69
  z124 := Try.sizeOf69
  v124 := Try.zeroValue69 }
theorem set_cells (w : World) : (zeroValue (lay153_ren.t 116)).run Try.prog w = .ok (.agg (Array.replicate 256 (.bool false))) w := by kernel_rfl
theorem set_info : (Try.prog.info? (lay153_ren.t 116)).map (·.size) = some 256 := by kernel_rfl
theorem any_long (s : ByteArray) (w : World) (h8 : 8 < s.size) (h13 : s.size ≤ 13) :
    Calls Try.prog (lay153_ren.f 153) #[.string s, .string ⟨#[0, 47]⟩] w fun e w' => e = .returned (.int .i64 (Lib.indexAny s.data.toList [0, 47])) ∧ Below w.heap.size w w' :=
  (Any.strings_IndexAny_long lay153 set_cells set_info s ⟨#[0, 47]⟩ w (by decide) h8 (by omega) (by decide) (fun j b h => by
    have : b = 0 ∨ b = 47 := by
      match j, h with
      | 0, h => left; injection h with h; exact h.symm
      | 1, h => right; injection h with h; exact h.symm
      | k + 2, h => simp at h
    rcases this with rfl | rfl <;> decide)).mono fun _ _ h => ⟨h.1, by rw [h.2]; exact ((Below.refl _ _).alloc (Nat.le_refl _) _).alloc (by simp) _⟩
end Go.Proofs.Ytejedkdlehgnpaa
