import Derived.Test.YtgkbagcgbfgllaaDcK
import Derived.Test.YtgkbagcgbfgllaaWid
/-
  What FlatWidth, LeadWidth and OpenLayout come to while a law goes on, and how they go together.
-/
set_option linter.unusedVariables false
set_option linter.unusedSimpArgs false
namespace Go.Proofs.Ytgkbagcgbfgllaa.DocW
open Go.RowKit P1 CntC Wid LayN OpenR

section
variable {w w' : World} {o n : Int} {t : ByteArray} {k : F} {a : Option Addr} {cap : Nat} {fs : List Nat}
theorem toO (h : DocK.Doc0 w n t k a cap fs) : DocO.Doc0 w n t k a cap fs := ⟨h.sub, h.ok, h.cap_le, h.size⟩
end
end Go.Proofs.Ytgkbagcgbfgllaa.DocW

