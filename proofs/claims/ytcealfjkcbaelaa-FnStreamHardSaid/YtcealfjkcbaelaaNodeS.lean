import Derived.Test.YtcealfjkcbaelaaPl
import Derived.Test.YtcealfjkcbaelaaChecked
import Derived.Outline
/-
  What impl.nodeSame and impl.kidListOf come to.
-/
set_option linter.unusedVariables false
set_option linter.unusedSimpArgs false
namespace Go.Proofs.Ytcealfjkcbaelaa.NodeS
open Go.RowKit

theorem ret_bool {a b : Bool} (h : a = b) : Ending.returned (.bool a) = .returned (.bool b) := by rw [h]

end Go.Proofs.Ytcealfjkcbaelaa.NodeS

