import Derived.Test.YtcealfjkcbaelaaTkA
import Derived.Test.YtcealfjkcbaelaaTkH
import Derived.Test.YtcealfjkcbaelaaCsA
import Derived.Lib.MinMax
/-
  LookAhead of the program.
-/
set_option linter.unusedVariables false
set_option linter.unusedSimpArgs false
namespace Go.Proofs.Ytcealfjkcbaelaa.Tk
open Go.RowKit P1 TextV
end Go.Proofs.Ytcealfjkcbaelaa.Tk

