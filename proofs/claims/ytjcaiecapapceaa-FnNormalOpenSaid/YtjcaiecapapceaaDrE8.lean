import Derived.Test.YtjcaiecapapceaaDr7
import Derived.Test.YtjcaiecapapceaaNfNx
import Derived.Test.YtjcaiecapapceaaJS
import Derived.Test.YtjcaiecapapceaaWoX
import Derived.Test.YtjcaiecapapceaaEqY
import Derived.Test.YtjcaiecapapceaaDcK
/-
 What the model's draw of a document for IsNormal comes to: some document of a bounded size in memory of its own, sometimes a normal form.
-/
set_option linter.unusedVariables false
set_option linter.unusedSimpArgs false
namespace Go.Proofs.Ytjcaiecapapceaa.Dr7
open Go.RowKit P1 Draw Draw2 Draw6 Copy DrA DrB DrC CatD ParseD DrD Mut Mut2 DrI DrN Nf
end Go.Proofs.Ytjcaiecapapceaa.Dr7
namespace Go.Proofs.Ytjcaiecapapceaa.Dr82
open Go.RowKit P1 Draw Draw2 Draw6 Copy CopyS CatD DrA DrD Mut Mut2 DrI DrJ DrS DrN Nf Dr7
section
variable {w w1 w2 w3 W W2 V : World} {oA nA : Int} {tA : ByteArray} {kA : F} {aA : Option Addr} {cA : Nat} {fA : List Nat}
end
end Go.Proofs.Ytjcaiecapapceaa.Dr82
namespace Go.Proofs.Ytjcaiecapapceaa.Dr82
open Go.RowKit P1 Draw Draw2 Draw6 Copy CopyS CatD DrA DrD Mut Mut2 DrI DrJ DrS DrN Nf Dr7
theorem toIn {w : World} {n : Int} {t : ByteArray} {k : F} {a : Option Addr} {c : Nat} {fs : List Nat} (h : DocK.Doc0 w n t k a c fs) : Eqd.DocIn w t k a c fs := ⟨h.sub, h.ok, h.cap_le, by have := h.size; omega, h.fits, h.tfit⟩
end Go.Proofs.Ytjcaiecapapceaa.Dr82
