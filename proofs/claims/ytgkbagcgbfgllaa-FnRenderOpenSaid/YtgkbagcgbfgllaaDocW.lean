import Derived.Test.YtgkbagcgbfgllaaDcK
import Derived.Test.YtgkbagcgbfgllaaWid
/-
  What FlatWidth, LeadWidth and OpenLayout come to while a law goes on, and how they go together.
-/
set_option linter.unusedVariables false
set_option linter.unusedSimpArgs false
namespace Go.Proofs.Ytgkbagcgbfgllaa.DocW
open Go.RowKit P1 CntC Wid LayN OpenR

section
variable {w w' : World} {o n : Int} {t : ByteArray} {k : F} {a : Option Addr} {cap : Nat} {fs : List Nat}
theorem toO (h : DocK.Doc0 w n t k a cap fs) : DocO.Doc0 w n t k a cap fs := ⟨h.sub, h.ok, h.cap_le, h.size⟩
theorem implFlatWidth (h : DocK.Doc0 w n t k a cap fs) (o : Int) : Calls Try.prog 18 #[.agg #[.int .i64 o, .int .i64 n, .string t, .slice a k.len cap]] w fun e w' => e = .returned (.tuple #[.int .i64 (orZ (canD o n t k) (Flat.flD o t k).size), .bool (canD o n t k)]) ∧ Ext w w' := Wid.implFlatWidth w o n t k a cap fs h.sub h.ok h.cap_le (by have := h.size; omega) h.fits h.tfit
end
end Go.Proofs.Ytgkbagcgbfgllaa.DocW

