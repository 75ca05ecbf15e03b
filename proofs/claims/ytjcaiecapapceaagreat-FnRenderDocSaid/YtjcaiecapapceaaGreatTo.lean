import Derived.Test.YtjcaiecapapceaaGreatPl
import Derived.Test.YtjcaiecapapceaaGreatChecked
import Derived.Outline
/-
 What the law's own helper that copies an argument into the program's type comes to.
-/
set_option linter.unusedVariables false
set_option linter.unusedSimpArgs false
namespace Go.Proofs.YtjcaiecapapceaaGreat.To
open Go.RowKit
def zeros (n : Nat) : Array Value := madeCells #[.int .i64 0, .int .i64 0, .string ⟨#[]⟩, .slice none 0 0] n
theorem info : (Tryz.prog.info? 25).map (fun i => (i.zero, i.size, i.bytes)) = some (some (.agg #[.int .i64 0, .int .i64 0, .string ⟨#[]⟩, .slice none 0 0]), 4, 56) := by kernel_rfl
def DocOut (w : World) (o n : Int) (t : ByteArray) (k : F) (e : Ending) (w' : World) : Prop := ∃ (a : Option Addr) (fs : List Nat), e = .returned (.agg #[.int .i64 o, .int .i64 n, .string t, .slice a k.len k.len]) ∧ SubAt w' a k fs ∧ Fresh w.heap.size w' fs ∧ Below w.heap.size w w'
def Mid (w : World) (f : F) (L : Nat) (k : Nat) (wr : World) : Prop := ∃ (p g : F) (fs : List Nat), f = p.app g ∧ p.len = k ∧ RowAt wr p w.heap.size 0 fs ∧ Fresh (w.heap.size + 1) wr fs ∧ wr.there w.heap.size 0 (L * 4) ∧ (w.heap.size < wr.heap.size ∧ ∀ o, wr.frozen? ⟨w.heap.size, o, none⟩ = false) ∧ Below w.heap.size w wr
end Go.Proofs.YtjcaiecapapceaaGreat.To
