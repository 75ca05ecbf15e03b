import Derived.Test.YtjcaiecapapceaaDcK
import Derived.Test.YtjcaiecapapceaaRnX2
/-
 What FlatWidth, LeadWidth and OpenLayout come to while a law goes on, and how they go together.
-/
set_option linter.unusedVariables false
set_option linter.unusedSimpArgs false
namespace Go.Proofs.Ytjcaiecapapceaa.DocW
open Go.RowKit P1 CntC Wid LayN OpenR
section
variable {w w' : World} {o n : Int} {t : ByteArray} {k : F} {a : Option Addr} {cap : Nat} {fs : List Nat}
end
end Go.Proofs.Ytjcaiecapapceaa.DocW
namespace Go.Proofs.Ytjcaiecapapceaa.DocR
open Go.RowKit P1 CntC Wid
section
variable {w w' : World} {o n : Int} {t : ByteArray} {k : F} {a : Option Addr} {cap : Nat} {fs : List Nat}
end
end Go.Proofs.Ytjcaiecapapceaa.DocR
namespace Go.Proofs.Ytjcaiecapapceaa.DocR
open Go.RowKit P1 CntC Wid LayN OpenR ChP Rn
section
variable {w w' : World} {o n : Int} {t : ByteArray} {k : F} {a : Option Addr} {cap : Nat} {fs : List Nat}
end
end Go.Proofs.Ytjcaiecapapceaa.DocR
