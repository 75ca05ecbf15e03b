import Derived.Test.YtclifbjnooilmaaGreatMarkT
import Derived.Deep.RegionHeld3
/-
 What the law's own helpers that write marks into a document, and look for them, come to.
-/
set_option linter.unusedVariables false
set_option linter.unusedSimpArgs false
namespace Go.Proofs.YtclifbjnooilmaaGreat.MarkDocs
open Go.RowKit P1 MarkT
end Go.Proofs.YtclifbjnooilmaaGreat.MarkDocs
