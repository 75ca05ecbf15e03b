import Derived.Test.YtcealfjkcbaelaaPl
import Derived.Test.YtcealfjkcbaelaaChecked
import Derived.ProofKit
/-
  The program's kidList as a key of a map, alone and in pairs.
-/
set_option linter.unusedVariables false
set_option linter.unusedSimpArgs false
namespace Go.Proofs.Ytcealfjkcbaelaa.KeysAt
open Go.RowKit
end Go.Proofs.Ytcealfjkcbaelaa.KeysAt

