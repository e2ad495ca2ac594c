/-
  No cell of these rows narrows 'for every input' (looked for: loops, veiled, ifaces, maps, wideKeys, modest, calm, conditions, laid).
  DERIVED. THE GIVEN ROWS OF THIS SEAT. 3 by the template 'for every input the law returns true; each argument reads behind the call as it read before'; 0 by the template 'total and deterministic' (their statements: YtjjejdjhlnlhiaaTotals.lean).
  GIVEN WITH THE SEED: the statements are not yours to turn. If you find one false, say at which input.
  Laid BY PROGRAM, IN A SANDBOX (cutbox-rows.mjs): the forced cells as the released guide's own fill.sh prints them over the translation f2907c91424fa3f2… (all of the seat's roots in one cut). By AI agents, Wed Nov 11 2026. No macro, syntax, notation, axiom, sorry.
-/
import Derived.Test.YtjjejdjhlnlhiaaChecked
import GoSem.Claim
import GoSem.ClaimJoined
import GoSem.ClaimMapViews
import Derived.JoinedTies
import Derived.KernelRfl
namespace Go.Proofs.Ytjjejdjhlnlhiaa
/- THE CELL 'sum', in the pinned program and in every row, IS THE sha256 OF THE DUMP (.gsa) THAT YtjjejdjhlnlhiaaProg.lean LOADS. Nothing in Lean hashes anything: it is a label: what it is worth is what the hold of that sum in a sandbox is worth. -/
noncomputable def Try.pinned : Pinned := { name := "ytjjejdjhlnlhiaa", sum := "f2907c91424fa3f27d64013a4586f1b1237f2733cf71d233133d88bea329b2cd", checked := Try.checked }
namespace Rows
def none {H : Type} : Left H := { results := [], args := [] }

/-- 'narthexlaw07.BitsAre': WHATEVER THE INPUT: true; the input reads as it did. -/
def bitsAreSpec : ChangeSpec := { name := "bitsAre", fn := fun _ => fun
  | [d1, d2, d3] => { results := [.lit (.bool true)], args := [d1, d2, d3] }
  | _ => none }
def bitsAreRow : OpenClaim := { program := "ytjjejdjhlnlhiaa", sum := "f2907c91424fa3f27d64013a4586f1b1237f2733cf71d233133d88bea329b2cd", func := "narthex/narthexlaw07.BitsAre", spec := "bitsAre", unfollowed := true, recurses := true, apart := false }
def BitsAreSaid : Prop := bitsAreRow.holds Try.pinned (OpenSpec.ofChange bitsAreSpec)

/-- ITS FALSE NEIGHBOUR: 'it returns false'. Refute it at one input. -/
def bitsAreWrong : ChangeSpec := { name := "bitsAre", fn := fun _ => fun
  | [d1, d2, d3] => { results := [.lit (.bool false)], args := [d1, d2, d3] }
  | _ => none }
def BitsAreWrongFalsely : Prop := bitsAreRow.holds Try.pinned (OpenSpec.ofChange bitsAreWrong)

/-- 'narthexlaw07.BitsFound': WHATEVER THE INPUT: true; the input reads as it did. -/
def bitsFoundSpec : ChangeSpec := { name := "bitsFound", fn := fun _ => fun
  | [d1, d2, d3] => { results := [.lit (.bool true)], args := [d1, d2, d3] }
  | _ => none }
def bitsFoundRow : OpenClaim := { program := "ytjjejdjhlnlhiaa", sum := "f2907c91424fa3f27d64013a4586f1b1237f2733cf71d233133d88bea329b2cd", func := "narthex/narthexlaw07.BitsFound", spec := "bitsFound", unfollowed := true, recurses := true, apart := false }
def BitsFoundSaid : Prop := bitsFoundRow.holds Try.pinned (OpenSpec.ofChange bitsFoundSpec)

/-- ITS FALSE NEIGHBOUR: 'it returns false'. Refute it at one input. -/
def bitsFoundWrong : ChangeSpec := { name := "bitsFound", fn := fun _ => fun
  | [d1, d2, d3] => { results := [.lit (.bool false)], args := [d1, d2, d3] }
  | _ => none }
def BitsFoundWrongFalsely : Prop := bitsFoundRow.holds Try.pinned (OpenSpec.ofChange bitsFoundWrong)

/-- 'narthexlaw07.BitsTakes': WHATEVER THE INPUT: true; the input reads as it did. -/
def bitsTakesSpec : ChangeSpec := { name := "bitsTakes", fn := fun _ => fun
  | [d] => { results := [.lit (.bool true)], args := [d] }
  | _ => none }
def bitsTakesRow : OpenClaim := { program := "ytjjejdjhlnlhiaa", sum := "f2907c91424fa3f27d64013a4586f1b1237f2733cf71d233133d88bea329b2cd", func := "narthex/narthexlaw07.BitsTakes", spec := "bitsTakes", unfollowed := true, recurses := true, apart := false }
def BitsTakesSaid : Prop := bitsTakesRow.holds Try.pinned (OpenSpec.ofChange bitsTakesSpec)

/-- ITS FALSE NEIGHBOUR: 'it returns false'. Refute it at one input. -/
def bitsTakesWrong : ChangeSpec := { name := "bitsTakes", fn := fun _ => fun
  | [d] => { results := [.lit (.bool false)], args := [d] }
  | _ => none }
def BitsTakesWrongFalsely : Prop := bitsTakesRow.holds Try.pinned (OpenSpec.ofChange bitsTakesWrong)

/- THE SECOND FORM. 'bulk': how many values and letters a reading holds, each counted each time it is reached (what is shared counts as often as it is met; a slice's spare places count too). A statement '..UptoSaid' is the law's where the arguments, and the package variables that the reading takes, are together of bulk at most 1048576: NARROWER than '..Said'. Prove '..Said' where nothing that the law and all that it calls make is longer than what came in: it says more and counts as full. Else prove '..UptoSaid'. A law counts once. -/
mutual
def uptoBulk {H : Type} : DataW H → Nat
  | .lit (.string bytes) => bytes.length + 1
  | .lit _ => 1
  | .nil => 1
  | .ptr d => uptoBulk d + 1
  | .slice elems spare => uptoBulkAll elems + uptoBulkAll spare + 1
  | .agg parts => uptoBulkAll parts + 1
  | .iface _ d => uptoBulk d + 1
  | .map entries => uptoBulkEntries entries + 1
  | .held _ => 1
def uptoBulkAll {H : Type} : List (DataW H) → Nat
  | [] => 0
  | d :: r => uptoBulk d + uptoBulkAll r
def uptoBulkEntries {H : Type} : List (Lit × DataW H) → Nat
  | [] => 0
  | x :: r => uptoBulkEntry x + uptoBulkEntries r
def uptoBulkEntry {H : Type} : Lit × DataW H → Nat
  | (.string bytes, d) => bytes.length + uptoBulk d + 1
  | (_, d) => uptoBulk d + 1
 end
def uptoSmall : (H : Type) → List (DataW H) → Bool := fun _ ds => decide (uptoBulkAll ds ≤ 1048576)
def OpenSpec.upto (s : _root_.Go.ChangeSpec) : _root_.Go.OpenSpec := { _root_.Go.OpenSpec.ofChange s with cond := some uptoSmall }

/-- 'narthexlaw07.BitsAre', WHERE WHAT IT READS IS OF BULK AT MOST 1048576: true; the input reads as it did. -/
def bitsAreUptoRow : OpenClaim := { program := "ytjjejdjhlnlhiaa", sum := "f2907c91424fa3f27d64013a4586f1b1237f2733cf71d233133d88bea329b2cd", func := "narthex/narthexlaw07.BitsAre", spec := "bitsAre", unfollowed := true, recurses := true, apart := false, narrowed := true }
def BitsAreUptoSaid : Prop := bitsAreUptoRow.holds Try.pinned (OpenSpec.upto bitsAreSpec)

/-- 'narthexlaw07.BitsFound', WHERE WHAT IT READS IS OF BULK AT MOST 1048576: true; the input reads as it did. -/
def bitsFoundUptoRow : OpenClaim := { program := "ytjjejdjhlnlhiaa", sum := "f2907c91424fa3f27d64013a4586f1b1237f2733cf71d233133d88bea329b2cd", func := "narthex/narthexlaw07.BitsFound", spec := "bitsFound", unfollowed := true, recurses := true, apart := false, narrowed := true }
def BitsFoundUptoSaid : Prop := bitsFoundUptoRow.holds Try.pinned (OpenSpec.upto bitsFoundSpec)

/-- 'narthexlaw07.BitsTakes', WHERE WHAT IT READS IS OF BULK AT MOST 1048576: true; the input reads as it did. -/
def bitsTakesUptoRow : OpenClaim := { program := "ytjjejdjhlnlhiaa", sum := "f2907c91424fa3f27d64013a4586f1b1237f2733cf71d233133d88bea329b2cd", func := "narthex/narthexlaw07.BitsTakes", spec := "bitsTakes", unfollowed := true, recurses := true, apart := false, narrowed := true }
def BitsTakesUptoSaid : Prop := bitsTakesUptoRow.holds Try.pinned (OpenSpec.upto bitsTakesSpec)

end Rows
end Go.Proofs.Ytjjejdjhlnlhiaa
