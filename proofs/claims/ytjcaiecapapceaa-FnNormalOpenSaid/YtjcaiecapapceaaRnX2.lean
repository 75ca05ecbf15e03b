import Derived.Test.YtjcaiecapapceaaLoX
import Derived.Test.YtjcaiecapapceaaRcX
/-
 RenderDoc of the program and of the model.
-/
set_option linter.unusedVariables false
set_option linter.unusedSimpArgs false
namespace Go.Proofs.Ytjcaiecapapceaa.RnR
open Go.RowKit Go.Shelf P1 Cnt CntC Flat Wid ChP Rn Bwd RnM Rq
open LayN (cells2 cells2_len cells2_one at_cells2 LayRes LayRes.none')
section
variable (w : World) (W o n : Int) (t : ByteArray) (k : F) (a : Option Addr) (cap : Nat) (fs : List Nat)
end
end Go.Proofs.Ytjcaiecapapceaa.RnR
namespace Go.Proofs.Ytjcaiecapapceaa.RnV
open Go.RowKit Go.Shelf P1 Cnt CntC Flat Wid ChP Rn Bwd RnM Rq RnR
end Go.Proofs.Ytjcaiecapapceaa.RnV
