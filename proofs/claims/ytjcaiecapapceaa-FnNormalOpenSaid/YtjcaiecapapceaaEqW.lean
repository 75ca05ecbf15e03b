import Derived.Test.YtjcaiecapapceaaRnX2
import Derived.Test.YtjcaiecapapceaaEqY
/-
 The least width in which two documents are rendered in another way: FirstWidth and SameRenders of the program and of the model.
-/
set_option linter.unusedVariables false
set_option linter.unusedSimpArgs false
namespace Go.Proofs.Ytjcaiecapapceaa.Eqd
open Go.RowKit Go.Shelf P1 LayL LayV LayM LayN Cnt CntC Rn RnM Rq RnR RnV
section
variable {o n : Int} {t : ByteArray} {k : F} {o' n' : Int} {t' : ByteArray} {k' : F}
end
end Go.Proofs.Ytjcaiecapapceaa.Eqd
