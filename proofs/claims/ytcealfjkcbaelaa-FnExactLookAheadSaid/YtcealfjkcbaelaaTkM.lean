import Derived.Test.YtcealfjkcbaelaaTkP
import Derived.Test.YtcealfjkcbaelaaLyA
/-
  What the law's own helper that writes marks into a list of tokens comes to.
-/
set_option linter.unusedVariables false
set_option linter.unusedSimpArgs false
namespace Go.Proofs.Ytcealfjkcbaelaa.TkM
open Go.RowKit P1 MarkT
open LayM (ret_int markTextI)
end Go.Proofs.Ytcealfjkcbaelaa.TkM

