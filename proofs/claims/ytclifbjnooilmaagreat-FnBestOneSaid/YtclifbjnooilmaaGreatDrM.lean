import Derived.Test.YtclifbjnooilmaaGreatDrZ
import Derived.Test.YtclifbjnooilmaaGreatShX
/-
 What the model's draws of documents with few choices come to: some document of a bounded size in memory of its own, and perhaps a number.
-/
set_option linter.unusedVariables false
set_option linter.unusedSimpArgs false
namespace Go.Proofs.YtclifbjnooilmaaGreat.DrN
open Go.RowKit P1 Draw Draw2 Draw6 Copy DrA DrB DrC CatD ParseD DrD Mut Mut2 DrI
end Go.Proofs.YtclifbjnooilmaaGreat.DrN
namespace Go.Proofs.YtclifbjnooilmaaGreat.DrR
open Go.RowKit P1 Draw Draw2 Draw6 Copy DrA DrB DrC CatD ParseD DrD Mut Mut2 DrI DrN
def RnDraw (w : World) (e : Ending) (w' : World) : Prop := ∃ (o n : Int) (t : ByteArray) (k : F) (a : Option Addr) (cap : Nat) (fs : List Nat) (op : Int), e = .returned (.tuple #[.agg #[.int .i64 o, .int .i64 n, .string t, .slice a k.len cap], .int .i64 op]) ∧ (-1 ≤ op ∧ op ≤ 201) ∧ k.len ≤ cap ∧ t.size + k.size ≤ 1040 ∧ SubAt w' a k fs ∧ Fresh w.heap.size w' fs ∧ Below w.heap.size w w'
theorem freshBut {lo B x : Nat} {w w' : World} {fs : List Nat} (h : Fresh lo w fs) (k : But B x w w') (hB : w.heap.size ≤ B) (hx : ∀ c ∈ fs, c ≠ x) : Fresh lo w' fs :=
 ⟨h.1, fun c hc => ⟨(h.2 c hc).1, Nat.lt_of_lt_of_le (h.2 c hc).2.1 k.size, fun o => (k.frozen (Nat.lt_of_lt_of_le (h.2 c hc).2.1 hB) (hx c hc)).trans ((h.2 c hc).2.2 o)⟩⟩
end Go.Proofs.YtclifbjnooilmaaGreat.DrR
