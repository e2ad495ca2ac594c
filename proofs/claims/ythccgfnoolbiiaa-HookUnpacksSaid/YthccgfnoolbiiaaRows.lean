/-
  No cell of these rows narrows 'for every input' (looked for: loops, veiled, ifaces, maps, wideKeys, modest, calm, conditions, laid).
  DERIVED. THE GIVEN ROWS OF THIS SEAT. 4 by the template 'for every input the law returns true; each argument reads behind the call as it read before'; 0 by the template 'total and deterministic' (their statements: YthccgfnoolbiiaaTotals.lean).
  GIVEN WITH THE SEED: the statements are not yours to turn. If you find one false, say at which input.
  Laid BY PROGRAM, IN A SANDBOX (cutbox-rows.mjs): the forced cells as the released guide's own fill.sh prints them over the translation 48ab0ca0e75241b0… (all of the seat's roots in one cut). By AI agents, Wed Nov 11 2026. No macro, syntax, notation, axiom, sorry.
-/
import Derived.Test.YthccgfnoolbiiaaChecked
import GoSem.Claim
import GoSem.ClaimJoined
import GoSem.ClaimMapViews
import Derived.JoinedTies
import Derived.KernelRfl
namespace Go.Proofs.Ythccgfnoolbiiaa
/- THE CELL 'sum', in the pinned program and in every row, IS THE sha256 OF THE DUMP (.gsa) THAT YthccgfnoolbiiaaProg.lean LOADS. Nothing in Lean hashes anything: it is a label: what it is worth is what the hold of that sum in a sandbox is worth. -/
noncomputable def Try.pinned : Pinned := { name := "ythccgfnoolbiiaa", sum := "48ab0ca0e75241b0d42ec2cbc780ae1eec33cd4c5fd7e135548d3c4f14465daa", checked := Try.checked }
namespace Rows
def none {H : Type} : Left H := { results := [], args := [] }

/-- 'narthexlaw18.HookShapes': WHATEVER THE INPUT: true; the input reads as it did. -/
def hookShapesSpec : ChangeSpec := { name := "hookShapes", fn := fun _ => fun
  | [d1, d2] => { results := [.lit (.bool true)], args := [d1, d2] }
  | _ => none }
def hookShapesRow : OpenClaim := { program := "ythccgfnoolbiiaa", sum := "48ab0ca0e75241b0d42ec2cbc780ae1eec33cd4c5fd7e135548d3c4f14465daa", func := "narthex/narthexlaw18.HookShapes", spec := "hookShapes", apart := false }
def HookShapesSaid : Prop := hookShapesRow.holds Try.pinned (OpenSpec.ofChange hookShapesSpec)

/-- ITS FALSE NEIGHBOUR: 'it returns false'. Refute it at one input. -/
def hookShapesWrong : ChangeSpec := { name := "hookShapes", fn := fun _ => fun
  | [d1, d2] => { results := [.lit (.bool false)], args := [d1, d2] }
  | _ => none }
def HookShapesWrongFalsely : Prop := hookShapesRow.holds Try.pinned (OpenSpec.ofChange hookShapesWrong)

/-- 'narthexlaw18.HookWords': WHATEVER THE INPUT: true; the input reads as it did. -/
def hookWordsSpec : ChangeSpec := { name := "hookWords", fn := fun _ => fun
  | [d] => { results := [.lit (.bool true)], args := [d] }
  | _ => none }
def hookWordsRow : OpenClaim := { program := "ythccgfnoolbiiaa", sum := "48ab0ca0e75241b0d42ec2cbc780ae1eec33cd4c5fd7e135548d3c4f14465daa", func := "narthex/narthexlaw18.HookWords", spec := "hookWords", apart := false }
def HookWordsSaid : Prop := hookWordsRow.holds Try.pinned (OpenSpec.ofChange hookWordsSpec)

/-- ITS FALSE NEIGHBOUR: 'it returns false'. Refute it at one input. -/
def hookWordsWrong : ChangeSpec := { name := "hookWords", fn := fun _ => fun
  | [d] => { results := [.lit (.bool false)], args := [d] }
  | _ => none }
def HookWordsWrongFalsely : Prop := hookWordsRow.holds Try.pinned (OpenSpec.ofChange hookWordsWrong)

/-- 'narthexlaw18.HookNames': WHATEVER THE INPUT: true; the input reads as it did. -/
def hookNamesSpec : ChangeSpec := { name := "hookNames", fn := fun _ => fun
  | [d1, d2] => { results := [.lit (.bool true)], args := [d1, d2] }
  | _ => none }
def hookNamesRow : OpenClaim := { program := "ythccgfnoolbiiaa", sum := "48ab0ca0e75241b0d42ec2cbc780ae1eec33cd4c5fd7e135548d3c4f14465daa", func := "narthex/narthexlaw18.HookNames", spec := "hookNames", apart := false }
def HookNamesSaid : Prop := hookNamesRow.holds Try.pinned (OpenSpec.ofChange hookNamesSpec)

/-- ITS FALSE NEIGHBOUR: 'it returns false'. Refute it at one input. -/
def hookNamesWrong : ChangeSpec := { name := "hookNames", fn := fun _ => fun
  | [d1, d2] => { results := [.lit (.bool false)], args := [d1, d2] }
  | _ => none }
def HookNamesWrongFalsely : Prop := hookNamesRow.holds Try.pinned (OpenSpec.ofChange hookNamesWrong)

/-- 'narthexlaw18.HookUnpacks': WHATEVER THE INPUT: true; the input reads as it did. -/
def hookUnpacksSpec : ChangeSpec := { name := "hookUnpacks", fn := fun _ => fun
  | [d1, d2, d3] => { results := [.lit (.bool true)], args := [d1, d2, d3] }
  | _ => none }
def hookUnpacksRow : OpenClaim := { program := "ythccgfnoolbiiaa", sum := "48ab0ca0e75241b0d42ec2cbc780ae1eec33cd4c5fd7e135548d3c4f14465daa", func := "narthex/narthexlaw18.HookUnpacks", spec := "hookUnpacks", apart := false }
def HookUnpacksSaid : Prop := hookUnpacksRow.holds Try.pinned (OpenSpec.ofChange hookUnpacksSpec)

/-- ITS FALSE NEIGHBOUR: 'it returns false'. Refute it at one input. -/
def hookUnpacksWrong : ChangeSpec := { name := "hookUnpacks", fn := fun _ => fun
  | [d1, d2, d3] => { results := [.lit (.bool false)], args := [d1, d2, d3] }
  | _ => none }
def HookUnpacksWrongFalsely : Prop := hookUnpacksRow.holds Try.pinned (OpenSpec.ofChange hookUnpacksWrong)

/- THE SECOND FORM. 'bulk': how many values and letters a reading holds, each counted each time it is reached (what is shared counts as often as it is met; a slice's spare places count too). A statement '..UptoSaid' is the law's where the arguments, and the package variables that the reading takes, are together of bulk at most 1048576: NARROWER than '..Said'. Prove '..Said' where nothing that the law and all that it calls make is longer than what came in: it says more and counts as full. Else prove '..UptoSaid'. A law counts once. -/
mutual
def uptoBulk {H : Type} : DataW H → Nat
  | .lit (.string bytes) => bytes.length + 1
  | .lit _ => 1
  | .nil => 1
  | .ptr d => uptoBulk d + 1
  | .slice elems spare => uptoBulkAll elems + uptoBulkAll spare + 1
  | .agg parts => uptoBulkAll parts + 1
  | .iface _ d => uptoBulk d + 1
  | .map entries => uptoBulkEntries entries + 1
  | .held _ => 1
def uptoBulkAll {H : Type} : List (DataW H) → Nat
  | [] => 0
  | d :: r => uptoBulk d + uptoBulkAll r
def uptoBulkEntries {H : Type} : List (Lit × DataW H) → Nat
  | [] => 0
  | x :: r => uptoBulkEntry x + uptoBulkEntries r
def uptoBulkEntry {H : Type} : Lit × DataW H → Nat
  | (.string bytes, d) => bytes.length + uptoBulk d + 1
  | (_, d) => uptoBulk d + 1
 end
def uptoSmall : (H : Type) → List (DataW H) → Bool := fun _ ds => decide (uptoBulkAll ds ≤ 1048576)
def OpenSpec.upto (s : _root_.Go.ChangeSpec) : _root_.Go.OpenSpec := { _root_.Go.OpenSpec.ofChange s with cond := some uptoSmall }

/-- 'narthexlaw18.HookShapes', WHERE WHAT IT READS IS OF BULK AT MOST 1048576: true; the input reads as it did. -/
def hookShapesUptoRow : OpenClaim := { program := "ythccgfnoolbiiaa", sum := "48ab0ca0e75241b0d42ec2cbc780ae1eec33cd4c5fd7e135548d3c4f14465daa", func := "narthex/narthexlaw18.HookShapes", spec := "hookShapes", apart := false, narrowed := true }
def HookShapesUptoSaid : Prop := hookShapesUptoRow.holds Try.pinned (OpenSpec.upto hookShapesSpec)

/-- 'narthexlaw18.HookWords', WHERE WHAT IT READS IS OF BULK AT MOST 1048576: true; the input reads as it did. -/
def hookWordsUptoRow : OpenClaim := { program := "ythccgfnoolbiiaa", sum := "48ab0ca0e75241b0d42ec2cbc780ae1eec33cd4c5fd7e135548d3c4f14465daa", func := "narthex/narthexlaw18.HookWords", spec := "hookWords", apart := false, narrowed := true }
def HookWordsUptoSaid : Prop := hookWordsUptoRow.holds Try.pinned (OpenSpec.upto hookWordsSpec)

/-- 'narthexlaw18.HookNames', WHERE WHAT IT READS IS OF BULK AT MOST 1048576: true; the input reads as it did. -/
def hookNamesUptoRow : OpenClaim := { program := "ythccgfnoolbiiaa", sum := "48ab0ca0e75241b0d42ec2cbc780ae1eec33cd4c5fd7e135548d3c4f14465daa", func := "narthex/narthexlaw18.HookNames", spec := "hookNames", apart := false, narrowed := true }
def HookNamesUptoSaid : Prop := hookNamesUptoRow.holds Try.pinned (OpenSpec.upto hookNamesSpec)

/-- 'narthexlaw18.HookUnpacks', WHERE WHAT IT READS IS OF BULK AT MOST 1048576: true; the input reads as it did. -/
def hookUnpacksUptoRow : OpenClaim := { program := "ythccgfnoolbiiaa", sum := "48ab0ca0e75241b0d42ec2cbc780ae1eec33cd4c5fd7e135548d3c4f14465daa", func := "narthex/narthexlaw18.HookUnpacks", spec := "hookUnpacks", apart := false, narrowed := true }
def HookUnpacksUptoSaid : Prop := hookUnpacksUptoRow.holds Try.pinned (OpenSpec.upto hookUnpacksSpec)

end Rows
end Go.Proofs.Ythccgfnoolbiiaa
