import Derived.Test.YtgkbagcgbfgllaaCstB
import Derived.Test.YtgkbagcgbfgllaaChecked
import Derived.ProofKit
import Derived.Lib.SmallJoins
import Derived.Deep.Slices
/-
  The laws' helpers on costs, and a cost that comes in as an argument.
-/
set_option linter.unusedVariables false
set_option linter.unusedSimpArgs false
namespace Go.Proofs.Ytgkbagcgbfgllaa.Cst
open Go.RowKit Go.ChangeShapes Go.WideShapes Go.ChangeAt P1 TextV LayV LayW
section
variable {H : Type} {enc : TypeId × Value → H} {w : World} {base : Nat} {spare : Nat → Bool} {held : Bool}
end
end Go.Proofs.Ytgkbagcgbfgllaa.Cst

