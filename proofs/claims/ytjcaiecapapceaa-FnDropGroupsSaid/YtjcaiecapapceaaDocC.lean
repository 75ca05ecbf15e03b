import Derived.Test.YtjcaiecapapceaaDoX
import Derived.Test.YtjcaiecapapceaaChX
/-
 What CountChoices and ChoiceOf come to while a law goes on.
-/
set_option linter.unusedVariables false
set_option linter.unusedSimpArgs false
namespace Go.Proofs.Ytjcaiecapapceaa.DocC
open Go.RowKit P1 CntC LayN OpenR ChP ChO
section
variable {w w' : World} {o n : Int} {t : ByteArray} {k : F} {a : Option Addr} {cap : Nat} {fs : List Nat}
end
end Go.Proofs.Ytjcaiecapapceaa.DocC
