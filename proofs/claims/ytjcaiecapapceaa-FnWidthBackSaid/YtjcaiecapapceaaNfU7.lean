import Derived.Test.YtjcaiecapapceaaFuX
import Derived.Test.YtjcaiecapapceaaNfG3
/-
 Texts joined: valid documents, and counts of nodes; nothing here speaks of layouts.
-/
set_option linter.unusedVariables false
set_option linter.unusedSimpArgs false
namespace Go.Proofs.Ytjcaiecapapceaa.Nf
open P1 CatD
end Go.Proofs.Ytjcaiecapapceaa.Nf
namespace Go.Proofs.Ytjcaiecapapceaa.Nf
open Go.RowKit P1 Copy CatD
end Go.Proofs.Ytjcaiecapapceaa.Nf
