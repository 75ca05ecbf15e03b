import Derived.Test.YtabmiikacaaplaaGreatNfG3
/-
  DropGroups of the model.
-/
set_option linter.unusedVariables false
set_option linter.unusedSimpArgs false
namespace Go.Proofs.YtabmiikacaaplaaGreat.Nf
open Go.RowKit P1 Copy CatD
end Go.Proofs.YtabmiikacaaplaaGreat.Nf

