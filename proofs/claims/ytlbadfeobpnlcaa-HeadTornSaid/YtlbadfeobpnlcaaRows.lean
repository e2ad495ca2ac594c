/-
  No cell of these rows narrows 'for every input' (looked for: loops, veiled, ifaces, maps, wideKeys, modest, calm, conditions, laid).
  DERIVED. THE GIVEN ROWS OF THIS SEAT. 4 by the template 'for every input the law returns true; each argument reads behind the call as it read before'; 0 by the template 'total and deterministic' (their statements: YtlbadfeobpnlcaaTotals.lean).
  GIVEN WITH THE SEED: the statements are not yours to turn. If you find one false, say at which input.
  Laid BY PROGRAM, IN A SANDBOX (cutbox-rows.mjs): the forced cells as the released guide's own fill.sh prints them over the translation 65ec097206a8027f… (all of the seat's roots in one cut). By AI agents, Wed Nov 11 2026. No macro, syntax, notation, axiom, sorry.
-/
import Derived.Test.YtlbadfeobpnlcaaChecked
import GoSem.Claim
import GoSem.ClaimJoined
import GoSem.ClaimMapViews
import Derived.JoinedTies
import Derived.KernelRfl
namespace Go.Proofs.Ytlbadfeobpnlcaa
/- THE CELL 'sum', in the pinned program and in every row, IS THE sha256 OF THE DUMP (.gsa) THAT YtlbadfeobpnlcaaProg.lean LOADS. Nothing in Lean hashes anything: it is a label: what it is worth is what the hold of that sum in a sandbox is worth. -/
noncomputable def Try.pinned : Pinned := { name := "ytlbadfeobpnlcaa", sum := "65ec097206a8027f6bc4b35d9a3726db2f373acea11d34d879afcb8b2f3acafb", checked := Try.checked }
namespace Rows
def none {H : Type} : Left H := { results := [], args := [] }

/-- 'narthexlaw04.HeadPages': WHATEVER THE INPUT: true; the input reads as it did. -/
def headPagesSpec : ChangeSpec := { name := "headPages", fn := fun _ => fun
  | [d] => { results := [.lit (.bool true)], args := [d] }
  | _ => none }
def headPagesRow : OpenClaim := { program := "ytlbadfeobpnlcaa", sum := "65ec097206a8027f6bc4b35d9a3726db2f373acea11d34d879afcb8b2f3acafb", func := "narthex/narthexlaw04.HeadPages", spec := "headPages", apart := false }
def HeadPagesSaid : Prop := headPagesRow.holds Try.pinned (OpenSpec.ofChange headPagesSpec)

/-- ITS FALSE NEIGHBOUR: 'it returns false'. Refute it at one input. -/
def headPagesWrong : ChangeSpec := { name := "headPages", fn := fun _ => fun
  | [d] => { results := [.lit (.bool false)], args := [d] }
  | _ => none }
def HeadPagesWrongFalsely : Prop := headPagesRow.holds Try.pinned (OpenSpec.ofChange headPagesWrong)

/-- 'narthexlaw04.HeadReads': WHATEVER THE INPUT: true; the input reads as it did. -/
def headReadsSpec : ChangeSpec := { name := "headReads", fn := fun _ => fun
  | [d1, d2] => { results := [.lit (.bool true)], args := [d1, d2] }
  | _ => none }
def headReadsRow : OpenClaim := { program := "ytlbadfeobpnlcaa", sum := "65ec097206a8027f6bc4b35d9a3726db2f373acea11d34d879afcb8b2f3acafb", func := "narthex/narthexlaw04.HeadReads", spec := "headReads", apart := false }
def HeadReadsSaid : Prop := headReadsRow.holds Try.pinned (OpenSpec.ofChange headReadsSpec)

/-- ITS FALSE NEIGHBOUR: 'it returns false'. Refute it at one input. -/
def headReadsWrong : ChangeSpec := { name := "headReads", fn := fun _ => fun
  | [d1, d2] => { results := [.lit (.bool false)], args := [d1, d2] }
  | _ => none }
def HeadReadsWrongFalsely : Prop := headReadsRow.holds Try.pinned (OpenSpec.ofChange headReadsWrong)

/-- 'narthexlaw04.HeadTorn': WHATEVER THE INPUT: true; the input reads as it did. -/
def headTornSpec : ChangeSpec := { name := "headTorn", fn := fun _ => fun
  | [d1, d2, d3] => { results := [.lit (.bool true)], args := [d1, d2, d3] }
  | _ => none }
def headTornRow : OpenClaim := { program := "ytlbadfeobpnlcaa", sum := "65ec097206a8027f6bc4b35d9a3726db2f373acea11d34d879afcb8b2f3acafb", func := "narthex/narthexlaw04.HeadTorn", spec := "headTorn", apart := false }
def HeadTornSaid : Prop := headTornRow.holds Try.pinned (OpenSpec.ofChange headTornSpec)

/-- ITS FALSE NEIGHBOUR: 'it returns false'. Refute it at one input. -/
def headTornWrong : ChangeSpec := { name := "headTorn", fn := fun _ => fun
  | [d1, d2, d3] => { results := [.lit (.bool false)], args := [d1, d2, d3] }
  | _ => none }
def HeadTornWrongFalsely : Prop := headTornRow.holds Try.pinned (OpenSpec.ofChange headTornWrong)

/-- 'narthexlaw04.HeadNext': WHATEVER THE INPUT: true; the input reads as it did. -/
def headNextSpec : ChangeSpec := { name := "headNext", fn := fun _ => fun
  | [d1, d2] => { results := [.lit (.bool true)], args := [d1, d2] }
  | _ => none }
def headNextRow : OpenClaim := { program := "ytlbadfeobpnlcaa", sum := "65ec097206a8027f6bc4b35d9a3726db2f373acea11d34d879afcb8b2f3acafb", func := "narthex/narthexlaw04.HeadNext", spec := "headNext", apart := false }
def HeadNextSaid : Prop := headNextRow.holds Try.pinned (OpenSpec.ofChange headNextSpec)

/-- ITS FALSE NEIGHBOUR: 'it returns false'. Refute it at one input. -/
def headNextWrong : ChangeSpec := { name := "headNext", fn := fun _ => fun
  | [d1, d2] => { results := [.lit (.bool false)], args := [d1, d2] }
  | _ => none }
def HeadNextWrongFalsely : Prop := headNextRow.holds Try.pinned (OpenSpec.ofChange headNextWrong)

/- THE SECOND FORM. 'bulk': how many values and letters a reading holds, each counted each time it is reached (what is shared counts as often as it is met; a slice's spare places count too). A statement '..UptoSaid' is the law's where the arguments, and the package variables that the reading takes, are together of bulk at most 1048576: NARROWER than '..Said'. Prove '..Said' where nothing that the law and all that it calls make is longer than what came in: it says more and counts as full. Else prove '..UptoSaid'. A law counts once. -/
mutual
def uptoBulk {H : Type} : DataW H → Nat
  | .lit (.string bytes) => bytes.length + 1
  | .lit _ => 1
  | .nil => 1
  | .ptr d => uptoBulk d + 1
  | .slice elems spare => uptoBulkAll elems + uptoBulkAll spare + 1
  | .agg parts => uptoBulkAll parts + 1
  | .iface _ d => uptoBulk d + 1
  | .map entries => uptoBulkEntries entries + 1
  | .held _ => 1
def uptoBulkAll {H : Type} : List (DataW H) → Nat
  | [] => 0
  | d :: r => uptoBulk d + uptoBulkAll r
def uptoBulkEntries {H : Type} : List (Lit × DataW H) → Nat
  | [] => 0
  | x :: r => uptoBulkEntry x + uptoBulkEntries r
def uptoBulkEntry {H : Type} : Lit × DataW H → Nat
  | (.string bytes, d) => bytes.length + uptoBulk d + 1
  | (_, d) => uptoBulk d + 1
 end
def uptoSmall : (H : Type) → List (DataW H) → Bool := fun _ ds => decide (uptoBulkAll ds ≤ 1048576)
def OpenSpec.upto (s : _root_.Go.ChangeSpec) : _root_.Go.OpenSpec := { _root_.Go.OpenSpec.ofChange s with cond := some uptoSmall }

/-- 'narthexlaw04.HeadPages', WHERE WHAT IT READS IS OF BULK AT MOST 1048576: true; the input reads as it did. -/
def headPagesUptoRow : OpenClaim := { program := "ytlbadfeobpnlcaa", sum := "65ec097206a8027f6bc4b35d9a3726db2f373acea11d34d879afcb8b2f3acafb", func := "narthex/narthexlaw04.HeadPages", spec := "headPages", apart := false, narrowed := true }
def HeadPagesUptoSaid : Prop := headPagesUptoRow.holds Try.pinned (OpenSpec.upto headPagesSpec)

/-- 'narthexlaw04.HeadReads', WHERE WHAT IT READS IS OF BULK AT MOST 1048576: true; the input reads as it did. -/
def headReadsUptoRow : OpenClaim := { program := "ytlbadfeobpnlcaa", sum := "65ec097206a8027f6bc4b35d9a3726db2f373acea11d34d879afcb8b2f3acafb", func := "narthex/narthexlaw04.HeadReads", spec := "headReads", apart := false, narrowed := true }
def HeadReadsUptoSaid : Prop := headReadsUptoRow.holds Try.pinned (OpenSpec.upto headReadsSpec)

/-- 'narthexlaw04.HeadTorn', WHERE WHAT IT READS IS OF BULK AT MOST 1048576: true; the input reads as it did. -/
def headTornUptoRow : OpenClaim := { program := "ytlbadfeobpnlcaa", sum := "65ec097206a8027f6bc4b35d9a3726db2f373acea11d34d879afcb8b2f3acafb", func := "narthex/narthexlaw04.HeadTorn", spec := "headTorn", apart := false, narrowed := true }
def HeadTornUptoSaid : Prop := headTornUptoRow.holds Try.pinned (OpenSpec.upto headTornSpec)

/-- 'narthexlaw04.HeadNext', WHERE WHAT IT READS IS OF BULK AT MOST 1048576: true; the input reads as it did. -/
def headNextUptoRow : OpenClaim := { program := "ytlbadfeobpnlcaa", sum := "65ec097206a8027f6bc4b35d9a3726db2f373acea11d34d879afcb8b2f3acafb", func := "narthex/narthexlaw04.HeadNext", spec := "headNext", apart := false, narrowed := true }
def HeadNextUptoSaid : Prop := headNextUptoRow.holds Try.pinned (OpenSpec.upto headNextSpec)

end Rows
end Go.Proofs.Ytlbadfeobpnlcaa
