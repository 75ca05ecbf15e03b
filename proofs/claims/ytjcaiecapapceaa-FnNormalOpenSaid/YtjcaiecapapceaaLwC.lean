import Derived.Test.YtjcaiecapapceaaLyX
import Derived.Lib.SmallJoins
import Derived.Deep.Slices
/-
 What LayoutWidth and Overflow of the program and of the model come to.
-/
set_option linter.unusedVariables false
set_option linter.unusedSimpArgs false
namespace Go.Proofs.Ytjcaiecapapceaa.LayW
open Go.RowKit P1 TextV LayV
end Go.Proofs.Ytjcaiecapapceaa.LayW
namespace Go.Proofs.Ytjcaiecapapceaa.LayW
open Go.RowKit P1 TextV LayV
end Go.Proofs.Ytjcaiecapapceaa.LayW
namespace Go.Proofs.Ytjcaiecapapceaa.LayW
open Go.RowKit P1 TextV LayV
end Go.Proofs.Ytjcaiecapapceaa.LayW
namespace Go.Proofs.Ytjcaiecapapceaa.Cst
open Go.RowKit P1 TextV LayV LayW
end Go.Proofs.Ytjcaiecapapceaa.Cst
namespace Go.Proofs.Ytjcaiecapapceaa.Cst
open Go.RowKit P1 TextV LayV LayW
end Go.Proofs.Ytjcaiecapapceaa.Cst
namespace Go.Proofs.Ytjcaiecapapceaa.Cst
open Go.RowKit Go.ChangeShapes Go.WideShapes Go.ChangeAt P1 TextV LayV LayW
section
variable {H : Type} {enc : TypeId × Value → H} {w : World} {base : Nat} {spare : Nat → Bool} {held : Bool}
end
end Go.Proofs.Ytjcaiecapapceaa.Cst
