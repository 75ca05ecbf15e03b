import Derived.Test.YtjcaiecapapceaaGreatChP
import Derived.Test.YtjcaiecapapceaaGreatNfA
/-
 What holds of nested and joined layouts, as plain data; nothing here speaks of the program.
-/
set_option linter.unusedVariables false
set_option linter.unusedSimpArgs false
namespace Go.Proofs.YtjcaiecapapceaaGreat.P1
open Go.RowKit
end Go.Proofs.YtjcaiecapapceaaGreat.P1
namespace Go.Proofs.YtjcaiecapapceaaGreat.Nf
open P1 Flat Wid ChP
end Go.Proofs.YtjcaiecapapceaaGreat.Nf
