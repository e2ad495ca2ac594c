/-
  No cell of these rows narrows 'for every input' (looked for: loops, veiled, ifaces, maps, wideKeys, modest, calm, conditions, laid).
  DERIVED. THE GIVEN ROWS OF THIS SEAT. 4 by the template 'for every input the law returns true; each argument reads behind the call as it read before'; 0 by the template 'total and deterministic' (their statements: YtjobaoecomdipaaTotals.lean).
  GIVEN WITH THE SEED: the statements are not yours to turn. If you find one false, say at which input.
  Laid BY PROGRAM, IN A SANDBOX (cutbox-rows.mjs): the forced cells as the released guide's own fill.sh prints them over the translation 3aeecac3628723c2… (all of the seat's roots in one cut). By AI agents, Wed Nov 11 2026. No macro, syntax, notation, axiom, sorry.
-/
import Derived.Test.YtjobaoecomdipaaChecked
import GoSem.Claim
import GoSem.ClaimJoined
import GoSem.ClaimMapViews
import Derived.JoinedTies
import Derived.KernelRfl
namespace Go.Proofs.Ytjobaoecomdipaa
/- THE CELL 'sum', in the pinned program and in every row, IS THE sha256 OF THE DUMP (.gsa) THAT YtjobaoecomdipaaProg.lean LOADS. Nothing in Lean hashes anything: it is a label: what it is worth is what the hold of that sum in a sandbox is worth. -/
noncomputable def Try.pinned : Pinned := { name := "ytjobaoecomdipaa", sum := "3aeecac3628723c29868cba441b166648274410513fb2bddd738011fec18f78d", checked := Try.checked }
namespace Rows
def none {H : Type} : Left H := { results := [], args := [] }

/-- 'narthexlaw10.SpanWays': WHATEVER THE INPUT: true; the input reads as it did. -/
def spanWaysSpec : ChangeSpec := { name := "spanWays", fn := fun _ => fun
  | [d] => { results := [.lit (.bool true)], args := [d] }
  | _ => none }
def spanWaysRow : OpenClaim := { program := "ytjobaoecomdipaa", sum := "3aeecac3628723c29868cba441b166648274410513fb2bddd738011fec18f78d", func := "narthex/narthexlaw10.SpanWays", spec := "spanWays", apart := false }
def SpanWaysSaid : Prop := spanWaysRow.holds Try.pinned (OpenSpec.ofChange spanWaysSpec)

/-- ITS FALSE NEIGHBOUR: 'it returns false'. Refute it at one input. -/
def spanWaysWrong : ChangeSpec := { name := "spanWays", fn := fun _ => fun
  | [d] => { results := [.lit (.bool false)], args := [d] }
  | _ => none }
def SpanWaysWrongFalsely : Prop := spanWaysRow.holds Try.pinned (OpenSpec.ofChange spanWaysWrong)

/-- 'narthexlaw10.SpanIndex': WHATEVER THE INPUT: true; the input reads as it did. -/
def spanIndexSpec : ChangeSpec := { name := "spanIndex", fn := fun _ => fun
  | [d] => { results := [.lit (.bool true)], args := [d] }
  | _ => none }
def spanIndexRow : OpenClaim := { program := "ytjobaoecomdipaa", sum := "3aeecac3628723c29868cba441b166648274410513fb2bddd738011fec18f78d", func := "narthex/narthexlaw10.SpanIndex", spec := "spanIndex", apart := false }
def SpanIndexSaid : Prop := spanIndexRow.holds Try.pinned (OpenSpec.ofChange spanIndexSpec)

/-- ITS FALSE NEIGHBOUR: 'it returns false'. Refute it at one input. -/
def spanIndexWrong : ChangeSpec := { name := "spanIndex", fn := fun _ => fun
  | [d] => { results := [.lit (.bool false)], args := [d] }
  | _ => none }
def SpanIndexWrongFalsely : Prop := spanIndexRow.holds Try.pinned (OpenSpec.ofChange spanIndexWrong)

/-- 'narthexlaw10.SpanMeta': WHATEVER THE INPUT: true; the input reads as it did. -/
def spanMetaSpec : ChangeSpec := { name := "spanMeta", fn := fun _ => fun
  | [d] => { results := [.lit (.bool true)], args := [d] }
  | _ => none }
def spanMetaRow : OpenClaim := { program := "ytjobaoecomdipaa", sum := "3aeecac3628723c29868cba441b166648274410513fb2bddd738011fec18f78d", func := "narthex/narthexlaw10.SpanMeta", spec := "spanMeta", apart := false }
def SpanMetaSaid : Prop := spanMetaRow.holds Try.pinned (OpenSpec.ofChange spanMetaSpec)

/-- ITS FALSE NEIGHBOUR: 'it returns false'. Refute it at one input. -/
def spanMetaWrong : ChangeSpec := { name := "spanMeta", fn := fun _ => fun
  | [d] => { results := [.lit (.bool false)], args := [d] }
  | _ => none }
def SpanMetaWrongFalsely : Prop := spanMetaRow.holds Try.pinned (OpenSpec.ofChange spanMetaWrong)

/-- 'narthexlaw10.SpanNumbers': WHATEVER THE INPUT: true; the input reads as it did. -/
def spanNumbersSpec : ChangeSpec := { name := "spanNumbers", fn := fun _ => fun
  | [d1, d2, d3] => { results := [.lit (.bool true)], args := [d1, d2, d3] }
  | _ => none }
def spanNumbersRow : OpenClaim := { program := "ytjobaoecomdipaa", sum := "3aeecac3628723c29868cba441b166648274410513fb2bddd738011fec18f78d", func := "narthex/narthexlaw10.SpanNumbers", spec := "spanNumbers", apart := false }
def SpanNumbersSaid : Prop := spanNumbersRow.holds Try.pinned (OpenSpec.ofChange spanNumbersSpec)

/-- ITS FALSE NEIGHBOUR: 'it returns false'. Refute it at one input. -/
def spanNumbersWrong : ChangeSpec := { name := "spanNumbers", fn := fun _ => fun
  | [d1, d2, d3] => { results := [.lit (.bool false)], args := [d1, d2, d3] }
  | _ => none }
def SpanNumbersWrongFalsely : Prop := spanNumbersRow.holds Try.pinned (OpenSpec.ofChange spanNumbersWrong)

/- THE SECOND FORM. 'bulk': how many values and letters a reading holds, each counted each time it is reached (what is shared counts as often as it is met; a slice's spare places count too). A statement '..UptoSaid' is the law's where the arguments, and the package variables that the reading takes, are together of bulk at most 1048576: NARROWER than '..Said'. Prove '..Said' where nothing that the law and all that it calls make is longer than what came in: it says more and counts as full. Else prove '..UptoSaid'. A law counts once. -/
mutual
def uptoBulk {H : Type} : DataW H → Nat
  | .lit (.string bytes) => bytes.length + 1
  | .lit _ => 1
  | .nil => 1
  | .ptr d => uptoBulk d + 1
  | .slice elems spare => uptoBulkAll elems + uptoBulkAll spare + 1
  | .agg parts => uptoBulkAll parts + 1
  | .iface _ d => uptoBulk d + 1
  | .map entries => uptoBulkEntries entries + 1
  | .held _ => 1
def uptoBulkAll {H : Type} : List (DataW H) → Nat
  | [] => 0
  | d :: r => uptoBulk d + uptoBulkAll r
def uptoBulkEntries {H : Type} : List (Lit × DataW H) → Nat
  | [] => 0
  | x :: r => uptoBulkEntry x + uptoBulkEntries r
def uptoBulkEntry {H : Type} : Lit × DataW H → Nat
  | (.string bytes, d) => bytes.length + uptoBulk d + 1
  | (_, d) => uptoBulk d + 1
 end
def uptoSmall : (H : Type) → List (DataW H) → Bool := fun _ ds => decide (uptoBulkAll ds ≤ 1048576)
def OpenSpec.upto (s : _root_.Go.ChangeSpec) : _root_.Go.OpenSpec := { _root_.Go.OpenSpec.ofChange s with cond := some uptoSmall }

/-- 'narthexlaw10.SpanWays', WHERE WHAT IT READS IS OF BULK AT MOST 1048576: true; the input reads as it did. -/
def spanWaysUptoRow : OpenClaim := { program := "ytjobaoecomdipaa", sum := "3aeecac3628723c29868cba441b166648274410513fb2bddd738011fec18f78d", func := "narthex/narthexlaw10.SpanWays", spec := "spanWays", apart := false, narrowed := true }
def SpanWaysUptoSaid : Prop := spanWaysUptoRow.holds Try.pinned (OpenSpec.upto spanWaysSpec)

/-- 'narthexlaw10.SpanIndex', WHERE WHAT IT READS IS OF BULK AT MOST 1048576: true; the input reads as it did. -/
def spanIndexUptoRow : OpenClaim := { program := "ytjobaoecomdipaa", sum := "3aeecac3628723c29868cba441b166648274410513fb2bddd738011fec18f78d", func := "narthex/narthexlaw10.SpanIndex", spec := "spanIndex", apart := false, narrowed := true }
def SpanIndexUptoSaid : Prop := spanIndexUptoRow.holds Try.pinned (OpenSpec.upto spanIndexSpec)

/-- 'narthexlaw10.SpanMeta', WHERE WHAT IT READS IS OF BULK AT MOST 1048576: true; the input reads as it did. -/
def spanMetaUptoRow : OpenClaim := { program := "ytjobaoecomdipaa", sum := "3aeecac3628723c29868cba441b166648274410513fb2bddd738011fec18f78d", func := "narthex/narthexlaw10.SpanMeta", spec := "spanMeta", apart := false, narrowed := true }
def SpanMetaUptoSaid : Prop := spanMetaUptoRow.holds Try.pinned (OpenSpec.upto spanMetaSpec)

/-- 'narthexlaw10.SpanNumbers', WHERE WHAT IT READS IS OF BULK AT MOST 1048576: true; the input reads as it did. -/
def spanNumbersUptoRow : OpenClaim := { program := "ytjobaoecomdipaa", sum := "3aeecac3628723c29868cba441b166648274410513fb2bddd738011fec18f78d", func := "narthex/narthexlaw10.SpanNumbers", spec := "spanNumbers", apart := false, narrowed := true }
def SpanNumbersUptoSaid : Prop := spanNumbersUptoRow.holds Try.pinned (OpenSpec.upto spanNumbersSpec)

end Rows
end Go.Proofs.Ytjobaoecomdipaa
