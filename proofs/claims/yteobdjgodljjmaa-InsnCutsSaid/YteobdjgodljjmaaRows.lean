/-
  No cell of these rows narrows 'for every input' (looked for: loops, veiled, ifaces, maps, wideKeys, modest, calm, conditions, laid).
  DERIVED. THE GIVEN ROWS OF THIS SEAT. 4 by the template 'for every input the law returns true; each argument reads behind the call as it read before'; 0 by the template 'total and deterministic' (their statements: YteobdjgodljjmaaTotals.lean).
  GIVEN WITH THE SEED: the statements are not yours to turn. If you find one false, say at which input.
  Laid BY PROGRAM, IN A SANDBOX (cutbox-rows.mjs): the forced cells as the released guide's own fill.sh prints them over the translation b4bf0424cf16b734… (all of the seat's roots in one cut). By AI agents, Wed Nov 11 2026. No macro, syntax, notation, axiom, sorry.
-/
import Derived.Test.YteobdjgodljjmaaChecked
import GoSem.Claim
import GoSem.ClaimJoined
import GoSem.ClaimMapViews
import Derived.JoinedTies
import Derived.KernelRfl
namespace Go.Proofs.Yteobdjgodljjmaa
/- THE CELL 'sum', in the pinned program and in every row, IS THE sha256 OF THE DUMP (.gsa) THAT YteobdjgodljjmaaProg.lean LOADS. Nothing in Lean hashes anything: it is a label: what it is worth is what the hold of that sum in a sandbox is worth. -/
noncomputable def Try.pinned : Pinned := { name := "yteobdjgodljjmaa", sum := "b4bf0424cf16b734eaa65997d9135be3fdf6afd3c008ce10d520b18d9157e74d", checked := Try.checked }
namespace Rows
def none {H : Type} : Left H := { results := [], args := [] }

/-- 'narthexlaw16.InsnBytes': WHATEVER THE INPUT: true; the input reads as it did. -/
def insnBytesSpec : ChangeSpec := { name := "insnBytes", fn := fun _ => fun
  | [d] => { results := [.lit (.bool true)], args := [d] }
  | _ => none }
def insnBytesRow : OpenClaim := { program := "yteobdjgodljjmaa", sum := "b4bf0424cf16b734eaa65997d9135be3fdf6afd3c008ce10d520b18d9157e74d", func := "narthex/narthexlaw16.InsnBytes", spec := "insnBytes", inPlace := ["internal/abi.NoEscape", "internal/bytealg.MakeNoZero"], apart := false }
def InsnBytesSaid : Prop := insnBytesRow.holds Try.pinned (OpenSpec.ofChange insnBytesSpec)

/-- ITS FALSE NEIGHBOUR: 'it returns false'. Refute it at one input. -/
def insnBytesWrong : ChangeSpec := { name := "insnBytes", fn := fun _ => fun
  | [d] => { results := [.lit (.bool false)], args := [d] }
  | _ => none }
def InsnBytesWrongFalsely : Prop := insnBytesRow.holds Try.pinned (OpenSpec.ofChange insnBytesWrong)

/-- 'narthexlaw16.InsnReads': WHATEVER THE INPUT: true; the input reads as it did. -/
def insnReadsSpec : ChangeSpec := { name := "insnReads", fn := fun _ => fun
  | [d] => { results := [.lit (.bool true)], args := [d] }
  | _ => none }
def insnReadsRow : OpenClaim := { program := "yteobdjgodljjmaa", sum := "b4bf0424cf16b734eaa65997d9135be3fdf6afd3c008ce10d520b18d9157e74d", func := "narthex/narthexlaw16.InsnReads", spec := "insnReads", inPlace := ["internal/abi.NoEscape", "internal/bytealg.MakeNoZero"], apart := false }
def InsnReadsSaid : Prop := insnReadsRow.holds Try.pinned (OpenSpec.ofChange insnReadsSpec)

/-- ITS FALSE NEIGHBOUR: 'it returns false'. Refute it at one input. -/
def insnReadsWrong : ChangeSpec := { name := "insnReads", fn := fun _ => fun
  | [d] => { results := [.lit (.bool false)], args := [d] }
  | _ => none }
def InsnReadsWrongFalsely : Prop := insnReadsRow.holds Try.pinned (OpenSpec.ofChange insnReadsWrong)

/-- 'narthexlaw16.InsnKinds': WHATEVER THE INPUT: true; the input reads as it did. -/
def insnKindsSpec : ChangeSpec := { name := "insnKinds", fn := fun _ => fun
  | [d] => { results := [.lit (.bool true)], args := [d] }
  | _ => none }
def insnKindsRow : OpenClaim := { program := "yteobdjgodljjmaa", sum := "b4bf0424cf16b734eaa65997d9135be3fdf6afd3c008ce10d520b18d9157e74d", func := "narthex/narthexlaw16.InsnKinds", spec := "insnKinds", inPlace := ["internal/abi.NoEscape", "internal/bytealg.MakeNoZero"], apart := false }
def InsnKindsSaid : Prop := insnKindsRow.holds Try.pinned (OpenSpec.ofChange insnKindsSpec)

/-- ITS FALSE NEIGHBOUR: 'it returns false'. Refute it at one input. -/
def insnKindsWrong : ChangeSpec := { name := "insnKinds", fn := fun _ => fun
  | [d] => { results := [.lit (.bool false)], args := [d] }
  | _ => none }
def InsnKindsWrongFalsely : Prop := insnKindsRow.holds Try.pinned (OpenSpec.ofChange insnKindsWrong)

/-- 'narthexlaw16.InsnCuts': WHATEVER THE INPUT: true; the input reads as it did. -/
def insnCutsSpec : ChangeSpec := { name := "insnCuts", fn := fun _ => fun
  | [d1, d2] => { results := [.lit (.bool true)], args := [d1, d2] }
  | _ => none }
def insnCutsRow : OpenClaim := { program := "yteobdjgodljjmaa", sum := "b4bf0424cf16b734eaa65997d9135be3fdf6afd3c008ce10d520b18d9157e74d", func := "narthex/narthexlaw16.InsnCuts", spec := "insnCuts", inPlace := ["internal/abi.NoEscape", "internal/bytealg.MakeNoZero"], apart := false }
def InsnCutsSaid : Prop := insnCutsRow.holds Try.pinned (OpenSpec.ofChange insnCutsSpec)

/-- ITS FALSE NEIGHBOUR: 'it returns false'. Refute it at one input. -/
def insnCutsWrong : ChangeSpec := { name := "insnCuts", fn := fun _ => fun
  | [d1, d2] => { results := [.lit (.bool false)], args := [d1, d2] }
  | _ => none }
def InsnCutsWrongFalsely : Prop := insnCutsRow.holds Try.pinned (OpenSpec.ofChange insnCutsWrong)

/- THE SECOND FORM. 'bulk': how many values and letters a reading holds, each counted each time it is reached (what is shared counts as often as it is met; a slice's spare places count too). A statement '..UptoSaid' is the law's where the arguments, and the package variables that the reading takes, are together of bulk at most 1048576: NARROWER than '..Said'. Prove '..Said' where nothing that the law and all that it calls make is longer than what came in: it says more and counts as full. Else prove '..UptoSaid'. A law counts once. -/
mutual
def uptoBulk {H : Type} : DataW H → Nat
  | .lit (.string bytes) => bytes.length + 1
  | .lit _ => 1
  | .nil => 1
  | .ptr d => uptoBulk d + 1
  | .slice elems spare => uptoBulkAll elems + uptoBulkAll spare + 1
  | .agg parts => uptoBulkAll parts + 1
  | .iface _ d => uptoBulk d + 1
  | .map entries => uptoBulkEntries entries + 1
  | .held _ => 1
def uptoBulkAll {H : Type} : List (DataW H) → Nat
  | [] => 0
  | d :: r => uptoBulk d + uptoBulkAll r
def uptoBulkEntries {H : Type} : List (Lit × DataW H) → Nat
  | [] => 0
  | x :: r => uptoBulkEntry x + uptoBulkEntries r
def uptoBulkEntry {H : Type} : Lit × DataW H → Nat
  | (.string bytes, d) => bytes.length + uptoBulk d + 1
  | (_, d) => uptoBulk d + 1
 end
def uptoSmall : (H : Type) → List (DataW H) → Bool := fun _ ds => decide (uptoBulkAll ds ≤ 1048576)
def OpenSpec.upto (s : _root_.Go.ChangeSpec) : _root_.Go.OpenSpec := { _root_.Go.OpenSpec.ofChange s with cond := some uptoSmall }

/-- 'narthexlaw16.InsnBytes', WHERE WHAT IT READS IS OF BULK AT MOST 1048576: true; the input reads as it did. -/
def insnBytesUptoRow : OpenClaim := { program := "yteobdjgodljjmaa", sum := "b4bf0424cf16b734eaa65997d9135be3fdf6afd3c008ce10d520b18d9157e74d", func := "narthex/narthexlaw16.InsnBytes", spec := "insnBytes", inPlace := ["internal/abi.NoEscape", "internal/bytealg.MakeNoZero"], apart := false, narrowed := true }
def InsnBytesUptoSaid : Prop := insnBytesUptoRow.holds Try.pinned (OpenSpec.upto insnBytesSpec)

/-- 'narthexlaw16.InsnReads', WHERE WHAT IT READS IS OF BULK AT MOST 1048576: true; the input reads as it did. -/
def insnReadsUptoRow : OpenClaim := { program := "yteobdjgodljjmaa", sum := "b4bf0424cf16b734eaa65997d9135be3fdf6afd3c008ce10d520b18d9157e74d", func := "narthex/narthexlaw16.InsnReads", spec := "insnReads", inPlace := ["internal/abi.NoEscape", "internal/bytealg.MakeNoZero"], apart := false, narrowed := true }
def InsnReadsUptoSaid : Prop := insnReadsUptoRow.holds Try.pinned (OpenSpec.upto insnReadsSpec)

/-- 'narthexlaw16.InsnKinds', WHERE WHAT IT READS IS OF BULK AT MOST 1048576: true; the input reads as it did. -/
def insnKindsUptoRow : OpenClaim := { program := "yteobdjgodljjmaa", sum := "b4bf0424cf16b734eaa65997d9135be3fdf6afd3c008ce10d520b18d9157e74d", func := "narthex/narthexlaw16.InsnKinds", spec := "insnKinds", inPlace := ["internal/abi.NoEscape", "internal/bytealg.MakeNoZero"], apart := false, narrowed := true }
def InsnKindsUptoSaid : Prop := insnKindsUptoRow.holds Try.pinned (OpenSpec.upto insnKindsSpec)

/-- 'narthexlaw16.InsnCuts', WHERE WHAT IT READS IS OF BULK AT MOST 1048576: true; the input reads as it did. -/
def insnCutsUptoRow : OpenClaim := { program := "yteobdjgodljjmaa", sum := "b4bf0424cf16b734eaa65997d9135be3fdf6afd3c008ce10d520b18d9157e74d", func := "narthex/narthexlaw16.InsnCuts", spec := "insnCuts", inPlace := ["internal/abi.NoEscape", "internal/bytealg.MakeNoZero"], apart := false, narrowed := true }
def InsnCutsUptoSaid : Prop := insnCutsUptoRow.holds Try.pinned (OpenSpec.upto insnCutsSpec)

end Rows
end Go.Proofs.Yteobdjgodljjmaa
