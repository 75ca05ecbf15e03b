import Derived.Test.YtgkbagcgbfgllaaLayW2
/-
  What Overflow of the program and of the model comes to.
-/
set_option linter.unusedVariables false
set_option linter.unusedSimpArgs false
namespace Go.Proofs.Ytgkbagcgbfgllaa.LayW
open Go.RowKit P1 TextV LayV
end Go.Proofs.Ytgkbagcgbfgllaa.LayW

