import Derived.Test.YtgkbagcgbfgllaaPl
import Derived.Test.YtgkbagcgbfgllaaLyA
import Derived.Deep.QuietTactic
import Derived.BigQuiet
/-
  What LayoutWidth and Overflow of the program and of the model come to.
-/
set_option linter.unusedVariables false
set_option linter.unusedSimpArgs false
namespace Go.Proofs.Ytgkbagcgbfgllaa.LayW
open Go.RowKit P1 TextV LayV
end Go.Proofs.Ytgkbagcgbfgllaa.LayW

/-
  What LayoutWidth and Overflow of the program and of the model come to, over the lines.
-/
set_option linter.unusedVariables false
set_option linter.unusedSimpArgs false
namespace Go.Proofs.Ytgkbagcgbfgllaa.LayW
open Go.RowKit P1 TextV LayV
end Go.Proofs.Ytgkbagcgbfgllaa.LayW

/-
  What Overflow of the program and of the model comes to.
-/
set_option linter.unusedVariables false
set_option linter.unusedSimpArgs false
namespace Go.Proofs.Ytgkbagcgbfgllaa.LayW
open Go.RowKit P1 TextV LayV
end Go.Proofs.Ytgkbagcgbfgllaa.LayW

