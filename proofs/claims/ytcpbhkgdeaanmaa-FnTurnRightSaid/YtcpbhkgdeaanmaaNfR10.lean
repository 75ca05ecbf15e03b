import Derived.Test.YtcpbhkgdeaanmaaNfR
import Derived.Test.YtcpbhkgdeaanmaaNfZ
import Derived.Test.YtcpbhkgdeaanmaaNfLe
/-
  TurnRight: again, its nodes and its layouts.
-/
set_option linter.unusedVariables false
set_option linter.unusedSimpArgs false
namespace Go.Proofs.Ytcpbhkgdeaanmaa.Nf
open P1 CatD ChP It

theorem nice_one {o n : Int} {t : ByteArray} {k : F} (h : niceD (o, n, t, k) = true) : nice (.cons o n t k .nil) = true := by
  rw [show nice (.cons o n t k .nil) = (niceD (o, n, t, k) && nice .nil) from rfl, h]; rfl
theorem ri_all {o n : Int} {t : ByteArray} {k : F} (h : (riRes o n t k).1 = true) :
    riRes (riRes o n t k).2.1 (riRes o n t k).2.2.1 (riRes o n t k).2.2.2.1 (riRes o n t k).2.2.2.2 = riRes o n t k ∧ (riRes o n t k).2.2.2.2.cnt = k.cnt ∧
    laysD (riRes o n t k).2.1 (riRes o n t k).2.2.1 (riRes o n t k).2.2.2.1 (riRes o n t k).2.2.2.2 = laysD o n t k ∧ toldD (riRes o n t k).2.1 (riRes o n t k).2.2.1 (riRes o n t k).2.2.2.1 (riRes o n t k).2.2.2.2 = toldD o n t k := by
  obtain ⟨h1, h2, h3⟩ := ch_ok h
  have e : riRes o n t k = (true, rowD (fun f => f) o n t k) := h3
  have hn := (valid_nice h1).1
  rw [e]
  refine ⟨?_, ?_, ?_⟩
  · have ha := congrArg hd (right_again (.cons o n t k .nil) (nice_one hn))
    have ha' : rowD (fun f => f) (rowD (fun f => f) o n t k).1 (rowD (fun f => f) o n t k).2.1 (rowD (fun f => f) o n t k).2.2.1 (rowD (fun f => f) o n t k).2.2.2 = rowD (fun f => f) o n t k := ha
    show chR (rowD (fun f => f) o n t k) (rowD (fun f => f) (rowD (fun f => f) o n t k).1 (rowD (fun f => f) o n t k).2.1 (rowD (fun f => f) o n t k).2.2.1 (rowD (fun f => f) o n t k).2.2.2) = _
    rw [ha']
    unfold chR
    have h2' : validD (rowD (fun f => f) o n t k).1 (rowD (fun f => f) o n t k).2.1 (rowD (fun f => f) o n t k).2.2.1 (rowD (fun f => f) o n t k).2.2.2 = true := h2
    rw [if_pos h2', if_pos h2']
  · have hc := (ri_keep (.cons o n t k .nil) (nice_one hn)).2.2.2
    rw [pr_cons] at hc
    have hc' : 1 + (rowD (fun f => f) o n t k).2.2.2.cnt + 0 = 1 + k.cnt + 0 := hc
    show (rowD (fun f => f) o n t k).2.2.2.cnt = k.cnt
    omega
  · have hq := row_eqv (fun f => f) (fun o n t k h => (ri_parts h).1) (fun P _ _ => EqO.refl _) (.cons o n t k .nil) (nice_one hn)
    exact lays_eqv hq.1 h1 h2

end Go.Proofs.Ytcpbhkgdeaanmaa.Nf

