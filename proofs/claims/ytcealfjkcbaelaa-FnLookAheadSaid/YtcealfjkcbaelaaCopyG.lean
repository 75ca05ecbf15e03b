import Derived.Test.YtcealfjkcbaelaaCopyS2
/-
  What the model's l1Copy comes to, with the row that its list lies in: the same document, its list grown in a row of the call's own.
-/
set_option linter.unusedVariables false
set_option linter.unusedSimpArgs false
namespace Go.Proofs.Ytcealfjkcbaelaa.CopyS
open Go.RowKit P1 Copy
end Go.Proofs.Ytcealfjkcbaelaa.CopyS

