import Derived.Test.YthlgjnmfblkegaaDrE
/-
  What the model's draws of the arguments of CatLayouts and NestLayout come to.
-/
set_option linter.unusedVariables false
set_option linter.unusedSimpArgs false
namespace Go.Proofs.Ythlgjnmfblkegaa.DrF
open Go.RowKit P1 Draw Draw2 Draw6 DrA DrD DrE LayN

/-- two layouts that are drawn -/
def CatDraw (w : World) (e : Ending) (w' : World) : Prop := ∃ (la : List (Int × ByteArray)) (pa : Option Addr) (ca : Nat) (fa : List Nat) (lb : List (Int × ByteArray)) (pb : Option Addr) (cb : Nat) (fb : List Nat), e = .returned (.tuple #[.slice pa la.length ca, .slice pb lb.length cb]) ∧ la.length ≤ ca ∧ lb.length ≤ cb ∧ Small la ∧ Small lb ∧ LaySub w' pa la fa ∧ LaySub w' pb lb fb ∧ Below w.heap.size w w'
/-- a number and a layout that are drawn -/
def NestDraw (w : World) (e : Ending) (w' : World) : Prop := ∃ (n : Int) (l : List (Int × ByteArray)) (p : Option Addr) (c : Nat) (f : List Nat), e = .returned (.tuple #[.int .i64 n, .slice p l.length c]) ∧ (-1 ≤ n ∧ n ≤ 200) ∧ l.length ≤ c ∧ Small l ∧ LaySub w' p l f ∧ Below w.heap.size w w'

theorem sub_but {w w' : World} {p : Option Addr} {l : List (Int × ByteArray)} {f : List Nat} {B x : Nat} (h : LaySub w p l f) (k : But B x w w') (hB : ∀ c ∈ f, c < B ∧ c ≠ x) : LaySub w' p l f := h.congr fun b hb _ => k.cell (hB b hb).1 (hB b hb).2

end Go.Proofs.Ythlgjnmfblkegaa.DrF

