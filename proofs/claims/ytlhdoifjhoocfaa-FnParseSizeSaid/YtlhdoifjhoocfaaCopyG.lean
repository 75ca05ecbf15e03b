import Derived.Test.YtlhdoifjhoocfaaCopyS2
/-
  What the model's l1Copy comes to, with the row that its list lies in: the same document, its list grown in a row of the call's own.
-/
set_option linter.unusedVariables false
set_option linter.unusedSimpArgs false
namespace Go.Proofs.Ytlhdoifjhoocfaa.CopyS
open Go.RowKit P1 Copy

/-- a document whose list lies in a row of the call's own -/
def GrownOut (w : World) (o n : Int) (t : ByteArray) (k : F) (e : Ending) (w' : World) : Prop := ∃ (v : Value) (fs : List Nat), e = .returned (.agg #[.int .i64 o, .int .i64 n, .string t, v]) ∧ Grow w' 26 (w.heap.size + 3) v k fs ∧ Below w.heap.size w w'

end Go.Proofs.Ytlhdoifjhoocfaa.CopyS

