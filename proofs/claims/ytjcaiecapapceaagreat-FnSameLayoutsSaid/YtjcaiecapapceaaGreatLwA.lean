import Derived.Test.YtjcaiecapapceaaGreatLyA
import Derived.Deep.QuietTactic
import Derived.BigQuiet
/-
 What LayoutWidth and Overflow of the program and of the model come to.
-/
set_option linter.unusedVariables false
set_option linter.unusedSimpArgs false
namespace Go.Proofs.YtjcaiecapapceaaGreat.LayW
open Go.RowKit P1 TextV LayV
end Go.Proofs.YtjcaiecapapceaaGreat.LayW
namespace Go.Proofs.YtjcaiecapapceaaGreat.LayW
open Go.RowKit P1 TextV LayV
end Go.Proofs.YtjcaiecapapceaaGreat.LayW
namespace Go.Proofs.YtjcaiecapapceaaGreat.LayW
open Go.RowKit P1 TextV LayV
end Go.Proofs.YtjcaiecapapceaaGreat.LayW
