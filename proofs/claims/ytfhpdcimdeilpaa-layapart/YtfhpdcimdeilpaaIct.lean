/- A configuration of numbers as it comes in. -/
import Derived.Test.YtfhpdcimdeilpaaDl
import Derived.Test.YtfhpdcimdeilpaaEqa
namespace Go.Proofs.Ytfhpdcimdeilpaa.st
set_option linter.unusedVariables false

def intC (K : Cf) : Ic := ⟨K.h, K.z, K.b, K.r, K.rd, K.wr, K.s, K.p, K.q, K.t⟩
theorem natC_intC (K : Cf) : natC (intC K) = K := by
  unfold natC intC
  simp only [Int.toNat_natCast]

end Go.Proofs.Ytfhpdcimdeilpaa.st
