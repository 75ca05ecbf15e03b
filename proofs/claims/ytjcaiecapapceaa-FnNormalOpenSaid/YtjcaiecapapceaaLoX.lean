import Derived.Test.YtjcaiecapapceaaRnE
import Derived.Test.YtjcaiecapapceaaLwC
/-
 layOut of the program where the parts of a document are pushed.
-/
set_option linter.unusedVariables false
set_option linter.unusedSimpArgs false
namespace Go.Proofs.Ytjcaiecapapceaa.RnM
open Go.RowKit Go.Shelf P1 Cnt CntC Flat Wid ChP Rn Rf Bwd BufQ
attribute [local go_sem] Oper.semAt_some
end Go.Proofs.Ytjcaiecapapceaa.RnM
namespace Go.Proofs.Ytjcaiecapapceaa.RnM
open Go.RowKit Go.Shelf P1 Cnt CntC Flat Wid ChP Rn Rf Bwd BufQ
end Go.Proofs.Ytjcaiecapapceaa.RnM
namespace Go.Proofs.Ytjcaiecapapceaa.RnM
open Go.RowKit Go.Shelf P1 Cnt CntC Flat Wid ChP Rn Rf Bwd BufQ
end Go.Proofs.Ytjcaiecapapceaa.RnM
