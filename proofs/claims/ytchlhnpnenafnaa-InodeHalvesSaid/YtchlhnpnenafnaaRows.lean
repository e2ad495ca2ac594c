/-
  No cell of these rows narrows 'for every input' (looked for: loops, veiled, ifaces, maps, wideKeys, modest, calm, conditions, laid).
  DERIVED. THE GIVEN ROWS OF THIS SEAT. 3 by the template 'for every input the law returns true; each argument reads behind the call as it read before'; 0 by the template 'total and deterministic' (their statements: YtchlhnpnenafnaaTotals.lean).
  GIVEN WITH THE SEED: the statements are not yours to turn. If you find one false, say at which input.
  Laid BY PROGRAM, IN A SANDBOX (cutbox-rows.mjs): the forced cells as the released guide's own fill.sh prints them over the translation fabb01adb42c4686… (all of the seat's roots in one cut). By AI agents, Wed Nov 11 2026. No macro, syntax, notation, axiom, sorry.
-/
import Derived.Test.YtchlhnpnenafnaaChecked
import GoSem.Claim
import GoSem.ClaimJoined
import GoSem.ClaimMapViews
import Derived.JoinedTies
import Derived.KernelRfl
namespace Go.Proofs.Ytchlhnpnenafnaa
/- THE CELL 'sum', in the pinned program and in every row, IS THE sha256 OF THE DUMP (.gsa) THAT YtchlhnpnenafnaaProg.lean LOADS. Nothing in Lean hashes anything: it is a label: what it is worth is what the hold of that sum in a sandbox is worth. -/
noncomputable def Try.pinned : Pinned := { name := "ytchlhnpnenafnaa", sum := "fabb01adb42c46869342266343d3ccccabb7c69fcda61bd50e3c0e1df6a8e58e", checked := Try.checked }
namespace Rows
def none {H : Type} : Left H := { results := [], args := [] }

/-- 'narthexlaw09.InodeHalves': WHATEVER THE INPUT: true; the input reads as it did. -/
def inodeHalvesSpec : ChangeSpec := { name := "inodeHalves", fn := fun _ => fun
  | [d1, d2, d3] => { results := [.lit (.bool true)], args := [d1, d2, d3] }
  | _ => none }
def inodeHalvesRow : OpenClaim := { program := "ytchlhnpnenafnaa", sum := "fabb01adb42c46869342266343d3ccccabb7c69fcda61bd50e3c0e1df6a8e58e", func := "narthex/narthexlaw09.InodeHalves", spec := "inodeHalves", apart := false }
def InodeHalvesSaid : Prop := inodeHalvesRow.holds Try.pinned (OpenSpec.ofChange inodeHalvesSpec)

/-- ITS FALSE NEIGHBOUR: 'it returns false'. Refute it at one input. -/
def inodeHalvesWrong : ChangeSpec := { name := "inodeHalves", fn := fun _ => fun
  | [d1, d2, d3] => { results := [.lit (.bool false)], args := [d1, d2, d3] }
  | _ => none }
def InodeHalvesWrongFalsely : Prop := inodeHalvesRow.holds Try.pinned (OpenSpec.ofChange inodeHalvesWrong)

/-- 'narthexlaw09.InodeRights': WHATEVER THE INPUT: true; the input reads as it did. -/
def inodeRightsSpec : ChangeSpec := { name := "inodeRights", fn := fun _ => fun
  | [d1, d2, d3] => { results := [.lit (.bool true)], args := [d1, d2, d3] }
  | _ => none }
def inodeRightsRow : OpenClaim := { program := "ytchlhnpnenafnaa", sum := "fabb01adb42c46869342266343d3ccccabb7c69fcda61bd50e3c0e1df6a8e58e", func := "narthex/narthexlaw09.InodeRights", spec := "inodeRights", apart := false }
def InodeRightsSaid : Prop := inodeRightsRow.holds Try.pinned (OpenSpec.ofChange inodeRightsSpec)

/-- ITS FALSE NEIGHBOUR: 'it returns false'. Refute it at one input. -/
def inodeRightsWrong : ChangeSpec := { name := "inodeRights", fn := fun _ => fun
  | [d1, d2, d3] => { results := [.lit (.bool false)], args := [d1, d2, d3] }
  | _ => none }
def InodeRightsWrongFalsely : Prop := inodeRightsRow.holds Try.pinned (OpenSpec.ofChange inodeRightsWrong)

/-- 'narthexlaw09.InodeAttr': WHATEVER THE INPUT: true; the input reads as it did. -/
def inodeAttrSpec : ChangeSpec := { name := "inodeAttr", fn := fun _ => fun
  | [d1, d2] => { results := [.lit (.bool true)], args := [d1, d2] }
  | _ => none }
def inodeAttrRow : OpenClaim := { program := "ytchlhnpnenafnaa", sum := "fabb01adb42c46869342266343d3ccccabb7c69fcda61bd50e3c0e1df6a8e58e", func := "narthex/narthexlaw09.InodeAttr", spec := "inodeAttr", apart := false }
def InodeAttrSaid : Prop := inodeAttrRow.holds Try.pinned (OpenSpec.ofChange inodeAttrSpec)

/-- ITS FALSE NEIGHBOUR: 'it returns false'. Refute it at one input. -/
def inodeAttrWrong : ChangeSpec := { name := "inodeAttr", fn := fun _ => fun
  | [d1, d2] => { results := [.lit (.bool false)], args := [d1, d2] }
  | _ => none }
def InodeAttrWrongFalsely : Prop := inodeAttrRow.holds Try.pinned (OpenSpec.ofChange inodeAttrWrong)

/- THE SECOND FORM. 'bulk': how many values and letters a reading holds, each counted each time it is reached (what is shared counts as often as it is met; a slice's spare places count too). A statement '..UptoSaid' is the law's where the arguments, and the package variables that the reading takes, are together of bulk at most 1048576: NARROWER than '..Said'. Prove '..Said' where nothing that the law and all that it calls make is longer than what came in: it says more and counts as full. Else prove '..UptoSaid'. A law counts once. -/
mutual
def uptoBulk {H : Type} : DataW H → Nat
  | .lit (.string bytes) => bytes.length + 1
  | .lit _ => 1
  | .nil => 1
  | .ptr d => uptoBulk d + 1
  | .slice elems spare => uptoBulkAll elems + uptoBulkAll spare + 1
  | .agg parts => uptoBulkAll parts + 1
  | .iface _ d => uptoBulk d + 1
  | .map entries => uptoBulkEntries entries + 1
  | .held _ => 1
def uptoBulkAll {H : Type} : List (DataW H) → Nat
  | [] => 0
  | d :: r => uptoBulk d + uptoBulkAll r
def uptoBulkEntries {H : Type} : List (Lit × DataW H) → Nat
  | [] => 0
  | x :: r => uptoBulkEntry x + uptoBulkEntries r
def uptoBulkEntry {H : Type} : Lit × DataW H → Nat
  | (.string bytes, d) => bytes.length + uptoBulk d + 1
  | (_, d) => uptoBulk d + 1
 end
def uptoSmall : (H : Type) → List (DataW H) → Bool := fun _ ds => decide (uptoBulkAll ds ≤ 1048576)
def OpenSpec.upto (s : _root_.Go.ChangeSpec) : _root_.Go.OpenSpec := { _root_.Go.OpenSpec.ofChange s with cond := some uptoSmall }

/-- 'narthexlaw09.InodeHalves', WHERE WHAT IT READS IS OF BULK AT MOST 1048576: true; the input reads as it did. -/
def inodeHalvesUptoRow : OpenClaim := { program := "ytchlhnpnenafnaa", sum := "fabb01adb42c46869342266343d3ccccabb7c69fcda61bd50e3c0e1df6a8e58e", func := "narthex/narthexlaw09.InodeHalves", spec := "inodeHalves", apart := false, narrowed := true }
def InodeHalvesUptoSaid : Prop := inodeHalvesUptoRow.holds Try.pinned (OpenSpec.upto inodeHalvesSpec)

/-- 'narthexlaw09.InodeRights', WHERE WHAT IT READS IS OF BULK AT MOST 1048576: true; the input reads as it did. -/
def inodeRightsUptoRow : OpenClaim := { program := "ytchlhnpnenafnaa", sum := "fabb01adb42c46869342266343d3ccccabb7c69fcda61bd50e3c0e1df6a8e58e", func := "narthex/narthexlaw09.InodeRights", spec := "inodeRights", apart := false, narrowed := true }
def InodeRightsUptoSaid : Prop := inodeRightsUptoRow.holds Try.pinned (OpenSpec.upto inodeRightsSpec)

/-- 'narthexlaw09.InodeAttr', WHERE WHAT IT READS IS OF BULK AT MOST 1048576: true; the input reads as it did. -/
def inodeAttrUptoRow : OpenClaim := { program := "ytchlhnpnenafnaa", sum := "fabb01adb42c46869342266343d3ccccabb7c69fcda61bd50e3c0e1df6a8e58e", func := "narthex/narthexlaw09.InodeAttr", spec := "inodeAttr", apart := false, narrowed := true }
def InodeAttrUptoSaid : Prop := inodeAttrUptoRow.holds Try.pinned (OpenSpec.upto inodeAttrSpec)

end Rows
end Go.Proofs.Ytchlhnpnenafnaa
