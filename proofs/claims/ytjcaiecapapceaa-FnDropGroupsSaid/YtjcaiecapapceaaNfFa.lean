import Derived.Test.YtjcaiecapapceaaFuX
/-
 Texts joined: valid documents, and counts of nodes; nothing here speaks of layouts.
-/
set_option linter.unusedVariables false
set_option linter.unusedSimpArgs false
namespace Go.Proofs.Ytjcaiecapapceaa.Nf
open P1 CatD
end Go.Proofs.Ytjcaiecapapceaa.Nf
