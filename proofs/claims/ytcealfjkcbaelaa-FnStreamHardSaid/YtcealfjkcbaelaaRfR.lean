import Derived.Test.YtcealfjkcbaelaaRfL
import Derived.Shelf.RegionOpen
import Derived.Deep.RegionHeld3
/-
  A region that draws its order, within a round of a range over a function: what has been shown of it outside of rounds serves; nothing here speaks of the program.
-/
set_option linter.unusedVariables false
set_option linter.unusedSimpArgs false
namespace Go.Proofs.Ytcealfjkcbaelaa.Rf
open Go.RowKit Go.Shelf

section
variable {P : Program} {l n : Nat} {Q : Exit → Act → World → Prop}
end

end Go.Proofs.Ytcealfjkcbaelaa.Rf

