import Derived.Test.YtjcaiecapapceaaNfB
import Derived.Deep.AppendLies
import Derived.Test.YtjcaiecapapceaaRfX
/-
 What impl.partsOf comes to: the parts of a document's row, in a row of the call's own, their Kids where they were.
-/
set_option linter.unusedVariables false
set_option linter.unusedSimpArgs false
namespace Go.Proofs.Ytjcaiecapapceaa.Nf
open Go.RowKit P1 Copy
end Go.Proofs.Ytjcaiecapapceaa.Nf
namespace Go.Proofs.Ytjcaiecapapceaa.Nf
open Go.RowKit P1 Copy Rf
attribute [local go_sem] Oper.semAt_some
end Go.Proofs.Ytjcaiecapapceaa.Nf
namespace Go.Proofs.Ytjcaiecapapceaa.Nf
open Go.RowKit Go.Shelf P1 Copy Rf
attribute [local go_sem] Oper.semAt_some
end Go.Proofs.Ytjcaiecapapceaa.Nf
namespace Go.Proofs.Ytjcaiecapapceaa.Nf
open Go.RowKit P1 Copy
end Go.Proofs.Ytjcaiecapapceaa.Nf
namespace Go.Proofs.Ytjcaiecapapceaa.Nf
open Go.RowKit P1 Copy CatD
end Go.Proofs.Ytjcaiecapapceaa.Nf
