import Derived.Test.YtcpbhkgdeaanmaaNfV
import Derived.Test.YtcpbhkgdeaanmaaItX
/-
  Documents with the same choices have the same layouts.
-/
set_option linter.unusedVariables false
set_option linter.unusedSimpArgs false
namespace Go.Proofs.Ytcpbhkgdeaanmaa.Nf
open P1 CatD ChP It

theorem lays_eqv {d d' : D} (h : Eqv 0 d d') (hv : validD d.1 d.2.1 d.2.2.1 d.2.2.2 = true) (hv' : validD d'.1 d'.2.1 d'.2.2.1 d'.2.2.2 = true) :
    laysD d'.1 d'.2.1 d'.2.2.1 d'.2.2.2 = laysD d.1 d.2.1 d.2.2.1 d.2.2.2 ∧ toldD d'.1 d'.2.1 d'.2.2.1 d'.2.2.2 = toldD d.1 d.2.1 d.2.2.1 d.2.2.2 := by
  have hc : ctD d'.1 d'.2.2.2 = ctD d.1 d.2.2.2 := h.ct
  have ht : toldD d'.1 d'.2.1 d'.2.2.1 d'.2.2.2 = toldD d.1 d.2.1 d.2.2.1 d.2.2.2 := by unfold toldD manyD; rw [hc, hv, hv']
  have hp : (fun i => pkD d'.1 d'.2.1 d'.2.2.1 d'.2.2.2 i) = (fun i => pkD d.1 d.2.1 d.2.2.1 d.2.2.2 i) := by
    funext i
    have h1 := h.pk i
    have h2 : pkO d' i = pkO d i := by rw [h1]; exact nestL_nought _
    exact h2
  refine ⟨?_, ht⟩
  unfold laysD
  rw [ht, hc, hp]

end Go.Proofs.Ytcpbhkgdeaanmaa.Nf

