import Derived.Test.YtjcaiecapapceaaGreatDrY
/-
 What the program's copyDoc comes to (beside CopyB): the same document in new memory.
-/
set_option linter.unusedVariables false
set_option linter.unusedSimpArgs false
namespace Go.Proofs.YtjcaiecapapceaaGreat.Copy
open Go.RowKit P1
end Go.Proofs.YtjcaiecapapceaaGreat.Copy
