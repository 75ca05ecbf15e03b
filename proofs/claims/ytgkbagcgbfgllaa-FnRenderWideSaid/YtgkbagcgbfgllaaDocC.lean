import Derived.Test.YtgkbagcgbfgllaaDocW
import Derived.Test.YtgkbagcgbfgllaaDcK
import Derived.Test.YtgkbagcgbfgllaaChX
/-
  What CountChoices and ChoiceOf come to while a law goes on.
-/
set_option linter.unusedVariables false
set_option linter.unusedSimpArgs false
namespace Go.Proofs.Ytgkbagcgbfgllaa.DocC
open Go.RowKit P1 CntC LayN OpenR ChP ChO

section
variable {w w' : World} {o n : Int} {t : ByteArray} {k : F} {a : Option Addr} {cap : Nat} {fs : List Nat}
theorem implChoice (h : DocK.Doc0 w n t k a cap fs) (o i : Int) : Calls Try.prog 28 #[.agg #[.int .i64 o, .int .i64 n, .string t, .slice a k.len cap], .int .i64 i] w (DocO.Out w (chR o n t k i).1 (chR o n t k i).2) :=
  (implChoiceOf w o n t k a cap fs i h.sub h.ok h.cap_le (by have := h.size; omega) h.fits h.tfit).mono fun e w' g => DocO.Out.of g (chR_good o n t k i)
end
theorem chR_open {o n : Int} {t : ByteArray} {k : F} {i : Int} {X : List (Int × ByteArray)} (h : chR o n t k i = (X, true)) : manyD o n t k = true ∧ 0 ≤ i ∧ i < (ctD o k : Int) ∧ X = pkD o n t k i.toNat := by
  by_cases hc : manyD o n t k = true ∧ 0 ≤ i ∧ i < (ctD o k : Int)
  · rw [chR_yes hc.1 hc.2.1 hc.2.2] at h
    injection h with h1 _
    exact ⟨hc.1, hc.2.1, hc.2.2, h1.symm⟩
  · rw [chR_no hc] at h
    injection h with _ h2
    cases h2
end Go.Proofs.Ytgkbagcgbfgllaa.DocC

