import Derived.Test.YtmkibpimjaofgaaDoX
import Derived.Test.YtmkibpimjaofgaaChX
/-
  What CountChoices and ChoiceOf come to while a law goes on.
-/
set_option linter.unusedVariables false
set_option linter.unusedSimpArgs false
namespace Go.Proofs.Ytmkibpimjaofgaa.DocC
open Go.RowKit P1 CntC LayN OpenR ChP ChO

section
variable {w w' : World} {o n : Int} {t : ByteArray} {k : F} {a : Option Addr} {cap : Nat} {fs : List Nat}
theorem implCount (h : DocK.Doc0 w n t k a cap fs) (o : Int) : Calls Try.prog 42 #[.agg #[.int .i64 o, .int .i64 n, .string t, .slice a k.len cap]] w fun e w' => e = .returned (.tuple #[.int .i64 (ChS.ccN o n t k), .bool (manyD o n t k)]) ∧ Ext w w' := ChC.implCountChoices w o n t k a cap fs h.sub h.ok h.cap_le (by have := h.size; omega) h.fits h.tfit
end
end Go.Proofs.Ytmkibpimjaofgaa.DocC

