import Derived.Test.YtcealfjkcbaelaaTkV
/-
  Valid tokens between a begin and an end, and twice; nothing here speaks of the program.
-/
set_option linter.unusedVariables false
set_option linter.unusedSimpArgs false
namespace Go.Proofs.Ytcealfjkcbaelaa.Tk
open Go.RowKit P1
theorem tkv_run {X : List (Int × Int × ByteArray)} (h : tkv X = true) : X.length < 200 ∧ run [] X = some [] := by
  simpa [tkv] using h
end Go.Proofs.Ytcealfjkcbaelaa.Tk

