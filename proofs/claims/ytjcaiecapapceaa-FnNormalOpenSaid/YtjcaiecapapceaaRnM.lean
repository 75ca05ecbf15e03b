import Derived.Test.YtjcaiecapapceaaRfY
import Derived.Test.YtjcaiecapapceaaLyX
/-
 A renderer of the program in memory: what is left of the document, the lines, the line that is not complete, the flags.
-/
set_option linter.unusedVariables false
set_option linter.unusedSimpArgs false
namespace Go.Proofs.Ytjcaiecapapceaa.RnM
open Go.RowKit Go.Shelf P1 Cnt CntC Flat Wid ChP Rn Bwd BufQ
open LayN (cells2 cells2_len cells2_one)
open LayC (cells2_app)
section
variable {w0 w w' : World} {B b : Nat} {W : Int} {its : List Itm} {s : St} {F : Fs}
end
end Go.Proofs.Ytjcaiecapapceaa.RnM
