import Derived.Test.YtjcaiecapapceaaGreatPl
import Derived.Test.YtjcaiecapapceaaGreatChecked
import Derived.Outline
import Derived.StillTailTactics
/-
 What the law's own helper for equality comes to.
-/
set_option linter.unusedVariables false
set_option linter.unusedSimpArgs false
namespace Go.Proofs.YtjcaiecapapceaaGreat.Eq
open Go.RowKit
end Go.Proofs.YtjcaiecapapceaaGreat.Eq
