/-
  What the project's five functions have to give, they give.
-/
import Derived.Test.YteobdjgodljjmaaYcuts
import Derived.Test.YteobdjgodljjmaaYenc
import Derived.Test.YteobdjgodljjmaaYdec
namespace Go.Proofs.Yteobdjgodljjmaa
theorem encodeC : EncodeC := encode_any
theorem rightC : RightC := right_any
theorem decodeC : DecodeC := decode_any
theorem hasImmC : HasImmC := hasImm_any
theorem isJumpC : IsJumpC := isJump_any
end Go.Proofs.Yteobdjgodljjmaa
