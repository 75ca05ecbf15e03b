import Derived.Test.YtafhefmjnjibdaaNfU
import Derived.Test.YtafhefmjnjibdaaNfQ2
import Derived.Test.YtafhefmjnjibdaaCntC
/-
  PushNest again, of documents that it has made.
-/
set_option linter.unusedVariables false
set_option linter.unusedSimpArgs false
namespace Go.Proofs.Ytafhefmjnjibdaa.Nf
open P1 CatD

theorem pu_again {o n : Int} {t : ByteArray} {k : F} (h : (puRes o n t k).1 = true) :
    puRes (puRes o n t k).2.1 (puRes o n t k).2.2.1 (puRes o n t k).2.2.2.1 (puRes o n t k).2.2.2.2 = puRes o n t k ∧
    ∀ op : Int, (((6 : Int) == op) = false) → CntC.opsD op (puRes o n t k).2.1 (puRes o n t k).2.2.2.2 = CntC.opsD op o k := by
  obtain ⟨h1, h2, h3⟩ := ch_ok h
  have e : puRes o n t k = (true, pushD 0 o n t k) := h3
  have hn := (valid_nice h1).1
  rw [e]
  refine ⟨?_, fun op h6 => ?_⟩
  · show chR (pushD 0 o n t k) (pushOf 0 (pushD 0 o n t k)) = _
    rw [pushD_again hn]
    unfold chR
    have h2' : validD (pushD 0 o n t k).1 (pushD 0 o n t k).2.1 (pushD 0 o n t k).2.2.1 (pushD 0 o n t k).2.2.2 = true := h2
    rw [if_pos h2', if_pos h2']
  · have := push_ops (fun x => x == op) h6 (.cons o n t k .nil) 0 (by rw [show nice (.cons o n t k .nil) = (niceD (o, n, t, k) && nice .nil) from rfl, hn]; rfl)
    exact this

end Go.Proofs.Ytafhefmjnjibdaa.Nf

