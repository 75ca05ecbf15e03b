import Derived.Test.YtjcaiecapapceaaFuX
import Derived.Test.YtjcaiecapapceaaNfG
/-
 The normal form as a plain function: five changes, each well-formed and not too large.
-/
set_option linter.unusedVariables false
set_option linter.unusedSimpArgs false
namespace Go.Proofs.Ytjcaiecapapceaa.Nf
open Go.RowKit P1 Copy CatD
def n2D (d : D) : D := ap (pushD 0) (n1D d)
def n3D (d : D) : D := ap (chD grR) (n2D d)
def n4D (d : D) : D := ap (chD emR) (n3D d)
def noD (d : D) : D := ap (rowD fzR) (n4D d)
end Go.Proofs.Ytjcaiecapapceaa.Nf
namespace Go.Proofs.Ytjcaiecapapceaa.Nf
open Go.RowKit P1 Copy CatD
end Go.Proofs.Ytjcaiecapapceaa.Nf
namespace Go.Proofs.Ytjcaiecapapceaa.Nf
open Go.RowKit P1 Copy CatD
end Go.Proofs.Ytjcaiecapapceaa.Nf
