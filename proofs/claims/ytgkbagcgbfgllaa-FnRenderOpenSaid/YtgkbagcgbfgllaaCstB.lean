import Derived.Test.YtgkbagcgbfgllaaCst
/-
  What CostOf of the program and of the model comes to.
-/
set_option linter.unusedVariables false
set_option linter.unusedSimpArgs false
namespace Go.Proofs.Ytgkbagcgbfgllaa.Cst
open Go.RowKit P1 TextV LayV LayW
end Go.Proofs.Ytgkbagcgbfgllaa.Cst

