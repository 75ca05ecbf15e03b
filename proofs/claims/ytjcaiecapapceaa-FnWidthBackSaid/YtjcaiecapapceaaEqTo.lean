import Derived.Test.YtjcaiecapapceaaPl
import Derived.Test.YtjcaiecapapceaaChecked
import Derived.Outline
import Derived.StillTailTactics
/-
 What the law's own helper that copies an argument into the program's type comes to.
-/
set_option linter.unusedVariables false
set_option linter.unusedSimpArgs false
namespace Go.Proofs.Ytjcaiecapapceaa.To
open Go.RowKit
theorem info : (Try.prog.info? 25).map (fun i => (i.zero, i.size, i.bytes)) = some (some (.agg #[.int .i64 0, .int .i64 0, .string ⟨#[]⟩, .slice none 0 0]), 4, 56) := by kernel_rfl
def DocOut (w : World) (o n : Int) (t : ByteArray) (k : F) (e : Ending) (w' : World) : Prop := ∃ (a : Option Addr) (fs : List Nat), e = .returned (.agg #[.int .i64 o, .int .i64 n, .string t, .slice a k.len k.len]) ∧ SubAt w' a k fs ∧ Fresh w.heap.size w' fs ∧ Below w.heap.size w w'
end Go.Proofs.Ytjcaiecapapceaa.To
namespace Go.Proofs.Ytjcaiecapapceaa.Eq
open Go.RowKit
end Go.Proofs.Ytjcaiecapapceaa.Eq
