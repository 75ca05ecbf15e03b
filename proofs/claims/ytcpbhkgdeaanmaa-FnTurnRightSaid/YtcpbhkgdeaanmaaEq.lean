import Derived.Test.YtcpbhkgdeaanmaaPl
import Derived.Test.YtcpbhkgdeaanmaaChecked
import Derived.Outline
import Derived.StillTailTactics
/-
  What the law's own helper for equality comes to.
-/
set_option linter.unusedVariables false
set_option linter.unusedSimpArgs false
namespace Go.Proofs.Ytcpbhkgdeaanmaa.Eq
open Go.RowKit

theorem ret_bool {a b : Bool} (h : a = b) : Ending.returned (.bool a) = .returned (.bool b) := by rw [h]

end Go.Proofs.Ytcpbhkgdeaanmaa.Eq

