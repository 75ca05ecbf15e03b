import Derived.Test.YtcpbhkgdeaanmaaNfD0
import Derived.Test.YtcpbhkgdeaanmaaNfB
import Derived.Test.YtcpbhkgdeaanmaaItX
/-
  DropEmpty: again, its nodes and its distinct layouts.
-/
set_option linter.unusedVariables false
set_option linter.unusedSimpArgs false
namespace Go.Proofs.Ytcpbhkgdeaanmaa.Nf
open P1 CatD ChP It

theorem lays_yes {d : D} (h : toldD d.1 d.2.1 d.2.2.1 d.2.2.2 = true) : laysD d.1 d.2.1 d.2.2.1 d.2.2.2 = lys d := by
  unfold laysD
  rw [if_pos h]; rfl
theorem em_all {o n : Int} {t : ByteArray} {k : F} (h : (emRes o n t k).1 = true) :
    emRes (emRes o n t k).2.1 (emRes o n t k).2.2.1 (emRes o n t k).2.2.2.1 (emRes o n t k).2.2.2.2 = emRes o n t k ∧ (emRes o n t k).2.2.2.2.cnt ≤ k.cnt ∧
    (toldD o n t k = true → toldD (emRes o n t k).2.1 (emRes o n t k).2.2.1 (emRes o n t k).2.2.2.1 (emRes o n t k).2.2.2.2 = true ∧ Ls.dist (laysD (emRes o n t k).2.1 (emRes o n t k).2.2.1 (emRes o n t k).2.2.2.1 (emRes o n t k).2.2.2.2) = Ls.dist (laysD o n t k)) ∧
    (CntC.opsD 1 (emRes o n t k).2.1 (emRes o n t k).2.2.2.2 = 0 ∨ 1 + (emRes o n t k).2.2.2.2.cnt = 1) := by
  obtain ⟨h1, h2, h3⟩ := ch_ok h
  have e : emRes o n t k = (true, chD emR o n t k) := h3
  have hn := (valid_nice h1).1
  obtain ⟨g1, g2⟩ := em_again hn
  have hN : nice (.cons o n t k .nil) = true := by rw [show nice (.cons o n t k .nil) = (niceD (o, n, t, k) && nice .nil) from rfl, hn]; rfl
  have hds : Ds (o, n, t, k) (chD emR o n t k) := (em_ds _ hN).2.1
  have hcnt := (em_nice hn).2
  rw [e]
  obtain ⟨d, hd⟩ : ∃ d, chD emR o n t k = d := ⟨_, rfl⟩
  have h2' : validD d.1 d.2.1 d.2.2.1 d.2.2.2 = true := by rw [← hd]; exact h2
  rw [hd] at g1 g2 hds hcnt ⊢
  refine ⟨?_, hcnt, fun ht => ?_, ?_⟩
  · show chR d (chD emR d.1 d.2.1 d.2.2.1 d.2.2.2) = _
    rw [g2]
    unfold chR
    rw [if_pos h2', if_pos h2']
  · have ht2 : toldD d.1 d.2.1 d.2.2.1 d.2.2.2 = true := by
      unfold toldD manyD at ht ⊢
      simp only [Bool.and_eq_true, decide_eq_true_eq] at ht ⊢
      have hct : ctD d.1 d.2.2.2 ≤ ctD o k := hds.ct
      exact ⟨⟨h2', by omega⟩, by omega⟩
    refine ⟨ht2, ?_⟩
    have e1 := lays_yes (d := d) ht2
    have e2 : laysD o n t k = lys (o, n, t, k) := lays_yes (d := (o, n, t, k)) ht
    show Ls.dist (laysD d.1 d.2.1 d.2.2.1 d.2.2.2) = Ls.dist (laysD o n t k)
    rw [e1, e2]
    exact hds.ls
  · rcases g1 with g1 | g1
    · refine .inr ?_
      rw [g1]; rfl
    · exact .inl g1

end Go.Proofs.Ytcpbhkgdeaanmaa.Nf

