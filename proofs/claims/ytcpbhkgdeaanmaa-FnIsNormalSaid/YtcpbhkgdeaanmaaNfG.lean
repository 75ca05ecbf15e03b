import Derived.Test.YtcpbhkgdeaanmaaNfG3
import Derived.Test.YtcpbhkgdeaanmaaNfB
/-
  DropGroups of the model.
-/
set_option linter.unusedVariables false
set_option linter.unusedSimpArgs false
namespace Go.Proofs.Ytcpbhkgdeaanmaa.Nf
open Go.RowKit P1 Copy CatD
end Go.Proofs.Ytcpbhkgdeaanmaa.Nf

