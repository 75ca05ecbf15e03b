import Derived.Test.YtjcaiecapapceaaGreatDoX
import Derived.Test.YtjcaiecapapceaaGreatChX
/-
 What CountChoices and ChoiceOf come to while a law goes on.
-/
set_option linter.unusedVariables false
set_option linter.unusedSimpArgs false
namespace Go.Proofs.YtjcaiecapapceaaGreat.DocC
open Go.RowKit P1 CntC LayN OpenR ChP ChO
section
variable {w w' : World} {o n : Int} {t : ByteArray} {k : F} {a : Option Addr} {cap : Nat} {fs : List Nat}
end
theorem many_yes {o n : Int} {t : ByteArray} {k : F} (h : manyD o n t k = true) : validD o n t k = true ∧ ctD o k ≤ 100000 := by
 simpa [manyD] using h
end Go.Proofs.YtjcaiecapapceaaGreat.DocC
