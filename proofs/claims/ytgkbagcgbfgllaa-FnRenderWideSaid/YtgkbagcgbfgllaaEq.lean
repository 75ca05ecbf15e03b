import Derived.Test.YtgkbagcgbfgllaaPl
import Derived.Test.YtgkbagcgbfgllaaChecked
import Derived.Outline
import Derived.StillTailTactics
/-
  What the law's own helper for equality comes to.
-/
set_option linter.unusedVariables false
set_option linter.unusedSimpArgs false
namespace Go.Proofs.Ytgkbagcgbfgllaa.Eq
open Go.RowKit

theorem ret_bool {a b : Bool} (h : a = b) : Ending.returned (.bool a) = .returned (.bool b) := by rw [h]

end Go.Proofs.Ytgkbagcgbfgllaa.Eq

