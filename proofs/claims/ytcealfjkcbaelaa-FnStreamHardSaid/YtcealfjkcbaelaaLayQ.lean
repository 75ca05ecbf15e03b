import Derived.Test.YtcealfjkcbaelaaPl
/-
  What holds of nested and joined layouts, as plain data; nothing here speaks of the program.
-/
set_option linter.unusedVariables false
set_option linter.unusedSimpArgs false
namespace Go.Proofs.Ytcealfjkcbaelaa.P1
open Go.RowKit
end Go.Proofs.Ytcealfjkcbaelaa.P1

