import Derived.Test.YtabmiikacaaplaaGreatPl
import Derived.Test.YtabmiikacaaplaaGreatChecked
import Derived.Outline
import Derived.StillTailTactics
/-
  What the law's own helper for equality comes to.
-/
set_option linter.unusedVariables false
set_option linter.unusedSimpArgs false
namespace Go.Proofs.YtabmiikacaaplaaGreat.Eq
open Go.RowKit
end Go.Proofs.YtabmiikacaaplaaGreat.Eq

