/-
  No cell of these rows narrows 'for every input' (looked for: loops, veiled, ifaces, maps, wideKeys, modest, calm, conditions, laid).
  DERIVED. THE GIVEN ROWS OF THIS SEAT. 4 by the template 'for every input the law returns true; each argument reads behind the call as it read before'; 0 by the template 'total and deterministic' (their statements: YtncmihikpcdgoaaGreatTotals.lean).
  GIVEN WITH THE SEED: the statements are not yours to turn. If you find one false, say at which input.
  Laid BY PROGRAM, IN A SANDBOX (cutbox-rows.mjs): the forced cells as the released guide's own fill.sh prints them over the translation 3cc2a8e61999906b… (all of the seat's roots in one cut). By AI agents, Wed Nov 11 2026. No macro, syntax, notation, axiom, sorry.
-/
import Derived.Test.YtncmihikpcdgoaaGreatChecked
import GoSem.Claim
import GoSem.ClaimJoined
import GoSem.ClaimMapViews
import Derived.JoinedTies
import Derived.KernelRfl
namespace Go.Proofs.YtncmihikpcdgoaaGreat
/- THE CELL 'sum', in the pinned program and in every row, IS THE sha256 OF THE DUMP (.gsa) THAT YtncmihikpcdgoaaGreatProg.lean LOADS. Nothing in Lean hashes anything: it is a label: what it is worth is what the hold of that sum in a sandbox is worth. -/
noncomputable def Tryz.pinned : Pinned := { name := "ytncmihikpcdgoaagreat", sum := "3cc2a8e61999906b10fbb69bbea6f07e52af6bf7bfb414676cdcb390822c91e9", checked := Tryz.checked }
namespace Rows
def none {H : Type} : Left H := { results := [], args := [] }

/-- 'narthexlaw11.FileSteps': WHATEVER THE INPUT: true; the input reads as it did. -/
def fileStepsSpec : ChangeSpec := { name := "fileSteps", fn := fun _ => fun
  | [d1, d2, d3] => { results := [.lit (.bool true)], args := [d1, d2, d3] }
  | _ => none }
def fileStepsRow : OpenClaim := { program := "ytncmihikpcdgoaagreat", sum := "3cc2a8e61999906b10fbb69bbea6f07e52af6bf7bfb414676cdcb390822c91e9", func := "narthex/narthexlaw11.FileSteps", spec := "fileSteps", inPlace := ["internal/abi.NoEscape"], unfollowed := true, recurses := true, apart := false }
def FileStepsSaid : Prop := fileStepsRow.holds Tryz.pinned (OpenSpec.ofChange fileStepsSpec)

/-- ITS FALSE NEIGHBOUR: 'it returns false'. Refute it at one input. -/
def fileStepsWrong : ChangeSpec := { name := "fileSteps", fn := fun _ => fun
  | [d1, d2, d3] => { results := [.lit (.bool false)], args := [d1, d2, d3] }
  | _ => none }
def FileStepsWrongFalsely : Prop := fileStepsRow.holds Tryz.pinned (OpenSpec.ofChange fileStepsWrong)

/-- 'narthexlaw11.FileCrash': WHATEVER THE INPUT: true; the input reads as it did. -/
def fileCrashSpec : ChangeSpec := { name := "fileCrash", fn := fun _ => fun
  | [d1, d2, d3] => { results := [.lit (.bool true)], args := [d1, d2, d3] }
  | _ => none }
def fileCrashRow : OpenClaim := { program := "ytncmihikpcdgoaagreat", sum := "3cc2a8e61999906b10fbb69bbea6f07e52af6bf7bfb414676cdcb390822c91e9", func := "narthex/narthexlaw11.FileCrash", spec := "fileCrash", inPlace := ["internal/abi.NoEscape"], unfollowed := true, recurses := true, apart := false }
def FileCrashSaid : Prop := fileCrashRow.holds Tryz.pinned (OpenSpec.ofChange fileCrashSpec)

/-- ITS FALSE NEIGHBOUR: 'it returns false'. Refute it at one input. -/
def fileCrashWrong : ChangeSpec := { name := "fileCrash", fn := fun _ => fun
  | [d1, d2, d3] => { results := [.lit (.bool false)], args := [d1, d2, d3] }
  | _ => none }
def FileCrashWrongFalsely : Prop := fileCrashRow.holds Tryz.pinned (OpenSpec.ofChange fileCrashWrong)

/-- 'narthexlaw11.FileNone': WHATEVER THE INPUT: true; the input reads as it did. -/
def fileNoneSpec : ChangeSpec := { name := "fileNone", fn := fun _ => fun
  | [d1, d2] => { results := [.lit (.bool true)], args := [d1, d2] }
  | _ => none }
def fileNoneRow : OpenClaim := { program := "ytncmihikpcdgoaagreat", sum := "3cc2a8e61999906b10fbb69bbea6f07e52af6bf7bfb414676cdcb390822c91e9", func := "narthex/narthexlaw11.FileNone", spec := "fileNone", inPlace := ["internal/abi.NoEscape"], unfollowed := true, recurses := true, apart := false }
def FileNoneSaid : Prop := fileNoneRow.holds Tryz.pinned (OpenSpec.ofChange fileNoneSpec)

/-- ITS FALSE NEIGHBOUR: 'it returns false'. Refute it at one input. -/
def fileNoneWrong : ChangeSpec := { name := "fileNone", fn := fun _ => fun
  | [d1, d2] => { results := [.lit (.bool false)], args := [d1, d2] }
  | _ => none }
def FileNoneWrongFalsely : Prop := fileNoneRow.holds Tryz.pinned (OpenSpec.ofChange fileNoneWrong)

/-- 'narthexlaw11.FilePages': WHATEVER THE INPUT: true; the input reads as it did. -/
def filePagesSpec : ChangeSpec := { name := "filePages", fn := fun _ => fun
  | [d1, d2] => { results := [.lit (.bool true)], args := [d1, d2] }
  | _ => none }
def filePagesRow : OpenClaim := { program := "ytncmihikpcdgoaagreat", sum := "3cc2a8e61999906b10fbb69bbea6f07e52af6bf7bfb414676cdcb390822c91e9", func := "narthex/narthexlaw11.FilePages", spec := "filePages", unfollowed := true, recurses := true, apart := false }
def FilePagesSaid : Prop := filePagesRow.holds Tryz.pinned (OpenSpec.ofChange filePagesSpec)

/-- ITS FALSE NEIGHBOUR: 'it returns false'. Refute it at one input. -/
def filePagesWrong : ChangeSpec := { name := "filePages", fn := fun _ => fun
  | [d1, d2] => { results := [.lit (.bool false)], args := [d1, d2] }
  | _ => none }
def FilePagesWrongFalsely : Prop := filePagesRow.holds Tryz.pinned (OpenSpec.ofChange filePagesWrong)

/- THE SECOND FORM. 'bulk': how many values and letters a reading holds, each counted each time it is reached (what is shared counts as often as it is met; a slice's spare places count too). A statement '..UptoSaid' is the law's where the arguments, and the package variables that the reading takes, are together of bulk at most 1048576: NARROWER than '..Said'. Prove '..Said' where nothing that the law and all that it calls make is longer than what came in: it says more and counts as full. Else prove '..UptoSaid'. A law counts once. -/
mutual
def uptoBulk {H : Type} : DataW H → Nat
  | .lit (.string bytes) => bytes.length + 1
  | .lit _ => 1
  | .nil => 1
  | .ptr d => uptoBulk d + 1
  | .slice elems spare => uptoBulkAll elems + uptoBulkAll spare + 1
  | .agg parts => uptoBulkAll parts + 1
  | .iface _ d => uptoBulk d + 1
  | .map entries => uptoBulkEntries entries + 1
  | .held _ => 1
def uptoBulkAll {H : Type} : List (DataW H) → Nat
  | [] => 0
  | d :: r => uptoBulk d + uptoBulkAll r
def uptoBulkEntries {H : Type} : List (Lit × DataW H) → Nat
  | [] => 0
  | x :: r => uptoBulkEntry x + uptoBulkEntries r
def uptoBulkEntry {H : Type} : Lit × DataW H → Nat
  | (.string bytes, d) => bytes.length + uptoBulk d + 1
  | (_, d) => uptoBulk d + 1
 end
def uptoSmall : (H : Type) → List (DataW H) → Bool := fun _ ds => decide (uptoBulkAll ds ≤ 1048576)
def OpenSpec.upto (s : _root_.Go.ChangeSpec) : _root_.Go.OpenSpec := { _root_.Go.OpenSpec.ofChange s with cond := some uptoSmall }

/-- 'narthexlaw11.FileSteps', WHERE WHAT IT READS IS OF BULK AT MOST 1048576: true; the input reads as it did. -/
def fileStepsUptoRow : OpenClaim := { program := "ytncmihikpcdgoaagreat", sum := "3cc2a8e61999906b10fbb69bbea6f07e52af6bf7bfb414676cdcb390822c91e9", func := "narthex/narthexlaw11.FileSteps", spec := "fileSteps", inPlace := ["internal/abi.NoEscape"], unfollowed := true, recurses := true, apart := false, narrowed := true }
def FileStepsUptoSaid : Prop := fileStepsUptoRow.holds Tryz.pinned (OpenSpec.upto fileStepsSpec)

/-- 'narthexlaw11.FileCrash', WHERE WHAT IT READS IS OF BULK AT MOST 1048576: true; the input reads as it did. -/
def fileCrashUptoRow : OpenClaim := { program := "ytncmihikpcdgoaagreat", sum := "3cc2a8e61999906b10fbb69bbea6f07e52af6bf7bfb414676cdcb390822c91e9", func := "narthex/narthexlaw11.FileCrash", spec := "fileCrash", inPlace := ["internal/abi.NoEscape"], unfollowed := true, recurses := true, apart := false, narrowed := true }
def FileCrashUptoSaid : Prop := fileCrashUptoRow.holds Tryz.pinned (OpenSpec.upto fileCrashSpec)

/-- 'narthexlaw11.FileNone', WHERE WHAT IT READS IS OF BULK AT MOST 1048576: true; the input reads as it did. -/
def fileNoneUptoRow : OpenClaim := { program := "ytncmihikpcdgoaagreat", sum := "3cc2a8e61999906b10fbb69bbea6f07e52af6bf7bfb414676cdcb390822c91e9", func := "narthex/narthexlaw11.FileNone", spec := "fileNone", inPlace := ["internal/abi.NoEscape"], unfollowed := true, recurses := true, apart := false, narrowed := true }
def FileNoneUptoSaid : Prop := fileNoneUptoRow.holds Tryz.pinned (OpenSpec.upto fileNoneSpec)

/-- 'narthexlaw11.FilePages', WHERE WHAT IT READS IS OF BULK AT MOST 1048576: true; the input reads as it did. -/
def filePagesUptoRow : OpenClaim := { program := "ytncmihikpcdgoaagreat", sum := "3cc2a8e61999906b10fbb69bbea6f07e52af6bf7bfb414676cdcb390822c91e9", func := "narthex/narthexlaw11.FilePages", spec := "filePages", unfollowed := true, recurses := true, apart := false, narrowed := true }
def FilePagesUptoSaid : Prop := filePagesUptoRow.holds Tryz.pinned (OpenSpec.upto filePagesSpec)

end Rows
end Go.Proofs.YtncmihikpcdgoaaGreat
