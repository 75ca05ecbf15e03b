import Derived.Test.YtjcaiecapapceaaRqX
/-
 What the law of dropped groups needs: the document is rendered as it was, and has no more nodes; plain facts.
-/
set_option linter.unusedVariables false
set_option linter.unusedSimpArgs false
namespace Go.Proofs.Ytjcaiecapapceaa.Rq
open Go.RowKit P1 Rn Nf CntC
theorem dg_rn {o n : Int} {t : ByteArray} {k : F} {o2 n2 : Int} {t2 : ByteArray} {k2 : F} (h : grRes o n t k = (true, o2, n2, t2, k2)) : validD o n t k = true ∧ validD o2 n2 t2 k2 = true ∧ (∀ W : Int, (stD W o2 n2 t2 k2).fin = (stD W o n t k).fin) ∧ 1 + k2.cnt ≤ 1 + k.cnt := by
 obtain ⟨h1, h2, h3⟩ := ch_ok (d := (o, n, t, k)) (d' := chD grR o n t k) (by show (grRes o n t k).1 = true; rw [h])
 have e : chD grR o n t k = (o2, n2, t2, k2) := by
  have h4 : grRes o n t k = (true, chD grR o n t k) := h3
  rw [h] at h4
  exact (Prod.mk.inj h4).2.symm
 have hn := (valid_nice h1).1
 have hq : Rq 0 (o, n, t, k) (chD grR o n t k) := (gr_rq (.cons o n t k .nil) (by rw [show nice (.cons o n t k .nil) = (niceD (o, n, t, k) && nice .nil) from rfl, hn]; rfl)).1
 have hc := (gr_nice hn).2
 rw [e] at h2 hq hc
 exact ⟨h1, h2, fun W => hq.st W, by simp only at hc; omega⟩
end Go.Proofs.Ytjcaiecapapceaa.Rq
