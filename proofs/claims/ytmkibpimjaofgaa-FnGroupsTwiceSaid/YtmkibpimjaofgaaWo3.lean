import Derived.Test.YtmkibpimjaofgaaWo2
import Derived.Test.YtmkibpimjaofgaaNfG
/-
  What the law of DropGroups twice needs of a document.
-/
set_option linter.unusedVariables false
set_option linter.unusedSimpArgs false
namespace Go.Proofs.Ytmkibpimjaofgaa.Nf
open P1 ChP CatD CntC

theorem gw_all {o n : Int} {t : ByteArray} {k : F} (h : (grRes o n t k).1 = true) :
    grRes (grRes o n t k).2.1 (grRes o n t k).2.2.1 (grRes o n t k).2.2.2.1 (grRes o n t k).2.2.2.2 = grRes o n t k ∧
    woRes o n t k = (true, woD (o, n, t, k)) ∧ grRes (woD (o, n, t, k)).1 (woD (o, n, t, k)).2.1 (woD (o, n, t, k)).2.2.1 (woD (o, n, t, k)).2.2.2 = (true, woD (o, n, t, k)) ∧
    opsD 8 (grRes o n t k).2.1 (grRes o n t k).2.2.2.2 ≤ opsD 8 o k ∧ (woD (o, n, t, k)).2.2.1.size + (woD (o, n, t, k)).2.2.2.size ≤ 100000 := by
  obtain ⟨hv, hv', e⟩ := ch_ok h
  have hn := (valid_nice hv).1
  obtain ⟨h1, h2⟩ := wg_again (o, n, t, k)
  have h3 := wg_bare hn
  have hw := wo_valid hv
  have ew := wo_yes hv
  have e' : grRes o n t k = (true, chD grR o n t k) := e
  refine ⟨?_, ew, ?_, ?_, ?_⟩
  · rw [e']
    show chR _ _ = _
    unfold chR
    rw [if_pos hv', show chD grR (chD grR o n t k).1 (chD grR o n t k).2.1 (chD grR o n t k).2.2.1 (chD grR o n t k).2.2.2 = chD grR o n t k from h1, if_pos hv']
  · show chR _ _ = _
    unfold chR
    have hw' : validD (woD (o, n, t, k)).1 (woD (o, n, t, k)).2.1 (woD (o, n, t, k)).2.2.1 (woD (o, n, t, k)).2.2.2 = true := hw
    rw [if_pos hw', h3, if_pos hw']
  · rw [e']
    exact h2
  · exact ch_tiny (d := (o, n, t, k)) (d' := woD (o, n, t, k)) (ok := true) (o := (woD (o, n, t, k)).1) (n := (woD (o, n, t, k)).2.1) (show woRes o n t k = _ from ew)

end Go.Proofs.Ytmkibpimjaofgaa.Nf

