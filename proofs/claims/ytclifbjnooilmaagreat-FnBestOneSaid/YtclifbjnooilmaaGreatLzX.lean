import Derived.Test.YtclifbjnooilmaaGreatPl
/-
 The text of a layout as plain data; nothing here speaks of the program.
-/
set_option linter.unusedVariables false
set_option linter.unusedSimpArgs false
namespace Go.Proofs.YtclifbjnooilmaaGreat.P1
open Go.RowKit
end Go.Proofs.YtclifbjnooilmaaGreat.P1
namespace Go.Proofs.YtclifbjnooilmaaGreat.P1
open Go.RowKit
def nl (l : List UInt8) : Nat := l.count 10
end Go.Proofs.YtclifbjnooilmaaGreat.P1
