import Derived.Test.YtjcaiecapapceaaRqX
import Derived.Test.YtjcaiecapapceaaEqW
/-
 Documents with the same normal form are rendered in the same way, and have the same open layout: plain facts.
-/
set_option linter.unusedVariables false
set_option linter.unusedSimpArgs false
namespace Go.Proofs.Ytjcaiecapapceaa.Eqd
open Go.RowKit P1 Rn OpenR Nf
end Go.Proofs.Ytjcaiecapapceaa.Eqd
