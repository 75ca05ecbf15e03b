import Derived.Test.YtgkbagcgbfgllaaRnR
import Derived.Test.YtgkbagcgbfgllaaVsA
/-
  GroupFlags of the program and of the model.
-/
set_option linter.unusedVariables false
set_option linter.unusedSimpArgs false
namespace Go.Proofs.Ytgkbagcgbfgllaa.RnG
open Go.RowKit Go.Shelf P1 Cnt CntC Flat Wid ChP Rn Bwd RnM Rq RnR Vs
section
variable (w : World) (W o n : Int) (t : ByteArray) (k : F) (a : Option Addr) (cap : Nat) (fs : List Nat)
end

end Go.Proofs.Ytgkbagcgbfgllaa.RnG

