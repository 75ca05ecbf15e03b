import Derived.Test.YtjcaiecapapceaaDrZ
/-
 The model's draw of the arguments of CatDocs: two documents, each in memory of its own.
-/
set_option linter.unusedVariables false
set_option linter.unusedSimpArgs false
namespace Go.Proofs.Ytjcaiecapapceaa.DrJ
open Go.RowKit P1 Draw Draw2 Draw6 Copy DrA DrD Mut Mut2 DrI
end Go.Proofs.Ytjcaiecapapceaa.DrJ
namespace Go.Proofs.Ytjcaiecapapceaa.DrS
open Go.RowKit P1 Draw Draw2 Draw6 Copy DrA DrD Mut Mut2 DrI DrJ
end Go.Proofs.Ytjcaiecapapceaa.DrS
