import Derived.Test.YtjcaiecapapceaaPl
/-
 Lists of layouts, and how they lie in memory; nothing here speaks of the program.
-/
set_option linter.unusedVariables false
set_option linter.unusedSimpArgs false
namespace Go.Proofs.Ytjcaiecapapceaa.Ls
open Go.RowKit P1
abbrev Lay := List (Int × ByteArray)
section
variable {P : Program}
end
end Go.Proofs.Ytjcaiecapapceaa.Ls
