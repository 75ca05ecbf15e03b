import Derived.Test.YtjcaiecapapceaaNfV
import Derived.Test.YtjcaiecapapceaaNfX
/-
 Texts of a row joined, as a plain function, and rows that are turned to the right; nothing here speaks of the program.
-/
set_option linter.unusedVariables false
set_option linter.unusedSimpArgs false
namespace Go.Proofs.Ytjcaiecapapceaa.Nf
open P1
def fits (d : D) (o : Int) (t : ByteArray) : Bool := d.1 == 2 && o == 2 && decide (d.2.2.1.size + t.size ≤ 12)
def fz : D → F → F
 | d, .nil => consD d .nil
 | d, .cons o n t k r => if fits d o t = true then fz (d.1, d.2.1, d.2.2.1 ++ t, d.2.2.2) r else consD d (fz (o, n, t, k) r)
def fzR : F → F
 | .nil => .nil
 | .cons o n t k r => fz (o, n, t, k) r
end Go.Proofs.Ytjcaiecapapceaa.Nf
namespace Go.Proofs.Ytjcaiecapapceaa.Nf
open P1 Flat Wid ChP
end Go.Proofs.Ytjcaiecapapceaa.Nf
namespace Go.Proofs.Ytjcaiecapapceaa.Nf
open Go.RowKit P1 Copy
end Go.Proofs.Ytjcaiecapapceaa.Nf
namespace Go.Proofs.Ytjcaiecapapceaa.Nf
open Go.RowKit P1 Copy
end Go.Proofs.Ytjcaiecapapceaa.Nf
namespace Go.Proofs.Ytjcaiecapapceaa.Nf
open Go.RowKit P1 Copy CatD
end Go.Proofs.Ytjcaiecapapceaa.Nf
namespace Go.Proofs.Ytjcaiecapapceaa.Nf
open Go.RowKit P1 Copy
end Go.Proofs.Ytjcaiecapapceaa.Nf
namespace Go.Proofs.Ytjcaiecapapceaa.Nf
open Go.RowKit P1 Copy CatD
end Go.Proofs.Ytjcaiecapapceaa.Nf
namespace Go.Proofs.Ytjcaiecapapceaa.Nf
open Go.RowKit P1 Copy CatD
end Go.Proofs.Ytjcaiecapapceaa.Nf
namespace Go.Proofs.Ytjcaiecapapceaa.Nf
open Go.RowKit P1 Copy CatD
end Go.Proofs.Ytjcaiecapapceaa.Nf
namespace Go.Proofs.Ytjcaiecapapceaa.Nf
open Go.RowKit P1 Copy CatD
end Go.Proofs.Ytjcaiecapapceaa.Nf
namespace Go.Proofs.Ytjcaiecapapceaa.Nf
open Go.RowKit P1 Copy CatD
end Go.Proofs.Ytjcaiecapapceaa.Nf
namespace Go.Proofs.Ytjcaiecapapceaa.Nf
open Go.RowKit P1 Copy CatD
end Go.Proofs.Ytjcaiecapapceaa.Nf
namespace Go.Proofs.Ytjcaiecapapceaa.Nf
open Go.RowKit P1 Copy CatD
end Go.Proofs.Ytjcaiecapapceaa.Nf
