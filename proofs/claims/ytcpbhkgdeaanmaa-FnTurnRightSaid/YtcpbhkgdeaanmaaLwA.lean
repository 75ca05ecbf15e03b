import Derived.Test.YtcpbhkgdeaanmaaPl
import Derived.Test.YtcpbhkgdeaanmaaLyA
import Derived.Deep.QuietTactic
import Derived.BigQuiet
/-
  What LayoutWidth and Overflow of the program and of the model come to.
-/
set_option linter.unusedVariables false
set_option linter.unusedSimpArgs false
namespace Go.Proofs.Ytcpbhkgdeaanmaa.LayW
open Go.RowKit P1 TextV LayV
end Go.Proofs.Ytcpbhkgdeaanmaa.LayW

/-
  What LayoutWidth and Overflow of the program and of the model come to, over the lines.
-/
set_option linter.unusedVariables false
set_option linter.unusedSimpArgs false
namespace Go.Proofs.Ytcpbhkgdeaanmaa.LayW
open Go.RowKit P1 TextV LayV
end Go.Proofs.Ytcpbhkgdeaanmaa.LayW

/-
  What Overflow of the program and of the model comes to.
-/
set_option linter.unusedVariables false
set_option linter.unusedSimpArgs false
namespace Go.Proofs.Ytcpbhkgdeaanmaa.LayW
open Go.RowKit P1 TextV LayV
end Go.Proofs.Ytcpbhkgdeaanmaa.LayW

