import Derived.Test.YtclifbjnooilmaaGreatDcK
import Derived.Test.YtclifbjnooilmaaGreatRnX2
/-
 What FlatWidth, LeadWidth and OpenLayout come to while a law goes on, and how they go together.
-/
set_option linter.unusedVariables false
set_option linter.unusedSimpArgs false
namespace Go.Proofs.YtclifbjnooilmaaGreat.DocW
open Go.RowKit P1 CntC Wid LayN OpenR
section
variable {w w' : World} {o n : Int} {t : ByteArray} {k : F} {a : Option Addr} {cap : Nat} {fs : List Nat}
end
end Go.Proofs.YtclifbjnooilmaaGreat.DocW
namespace Go.Proofs.YtclifbjnooilmaaGreat.DocR
open Go.RowKit P1 CntC Wid
section
variable {w w' : World} {o n : Int} {t : ByteArray} {k : F} {a : Option Addr} {cap : Nat} {fs : List Nat}
end
end Go.Proofs.YtclifbjnooilmaaGreat.DocR
namespace Go.Proofs.YtclifbjnooilmaaGreat.DocR
open Go.RowKit P1 CntC Wid LayN OpenR ChP Rn
section
variable {w w' : World} {o n : Int} {t : ByteArray} {k : F} {a : Option Addr} {cap : Nat} {fs : List Nat}
end
end Go.Proofs.YtclifbjnooilmaaGreat.DocR
