import Derived.Test.YtcealfjkcbaelaaCntN
import Derived.Test.YtcealfjkcbaelaaSpV
/-
  What DocSize, CountOps and CanFlatten come to, of the program and of the model.
-/
set_option linter.unusedVariables false
set_option linter.unusedSimpArgs false
namespace Go.Proofs.Ytcealfjkcbaelaa.CntC
open Go.RowKit P1 Cnt
theorem ret_bool {a b : Bool} (h : a = b) : Ending.returned (.bool a) = .returned (.bool b) := by rw [h]

end Go.Proofs.Ytcealfjkcbaelaa.CntC

