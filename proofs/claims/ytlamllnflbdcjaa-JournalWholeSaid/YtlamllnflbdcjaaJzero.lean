/-
  The zero value of sixty pages.
-/
import Derived.Test.YtlamllnflbdcjaaDmem
namespace Go.Proofs.Ytlamllnflbdcjaa
open Go.RowKit
open Dk (zeros zeros_length)

theorem rows_info : (Try.prog.info? 43).map (·.size) = some 3840 := by kernel_rfl
theorem rows_zero (w : World) : (zeroValue 43).run Try.prog w = .ok (.agg (zeroRow 60)) w := by kernel_rfl
end Go.Proofs.Ytlamllnflbdcjaa
