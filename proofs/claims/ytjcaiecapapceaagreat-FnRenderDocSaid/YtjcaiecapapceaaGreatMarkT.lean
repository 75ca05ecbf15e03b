import Derived.Test.YtjcaiecapapceaaGreatPl
import Derived.Test.YtjcaiecapapceaaGreatChecked
import Derived.Outline
import Derived.Laws.IdiomStrings
/-
 What the law's own markText comes to: the letter m and the decimal digits.
-/
set_option linter.unusedVariables false
set_option linter.unusedSimpArgs false
namespace Go.Proofs.YtjcaiecapapceaaGreat.MarkT
open Go.RowKit P1
end Go.Proofs.YtjcaiecapapceaaGreat.MarkT
