import Derived.Test.YtjcaiecapapceaaGreatNfG3
/-
 DropGroups of the model.
-/
set_option linter.unusedVariables false
set_option linter.unusedSimpArgs false
namespace Go.Proofs.YtjcaiecapapceaaGreat.Nf
open Go.RowKit P1 Copy CatD
end Go.Proofs.YtjcaiecapapceaaGreat.Nf
