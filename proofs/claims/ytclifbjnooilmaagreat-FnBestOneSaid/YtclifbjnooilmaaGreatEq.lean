import Derived.Test.YtclifbjnooilmaaGreatPl
import Derived.Test.YtclifbjnooilmaaGreatChecked
import Derived.Outline
import Derived.StillTailTactics
/-
 What the law's own helper for equality comes to.
-/
set_option linter.unusedVariables false
set_option linter.unusedSimpArgs false
namespace Go.Proofs.YtclifbjnooilmaaGreat.Eq
open Go.RowKit
end Go.Proofs.YtclifbjnooilmaaGreat.Eq
