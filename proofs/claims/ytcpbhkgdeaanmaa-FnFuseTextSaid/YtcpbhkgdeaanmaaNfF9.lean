import Derived.Test.YtcpbhkgdeaanmaaFuM
import Derived.Test.YtcpbhkgdeaanmaaNfFa
import Derived.Test.YtcpbhkgdeaanmaaNfLe
import Derived.Test.YtcpbhkgdeaanmaaDocW
/-
  FuseText: again, its layouts, its texts and its lead.
-/
set_option linter.unusedVariables false
set_option linter.unusedSimpArgs false
namespace Go.Proofs.Ytcpbhkgdeaanmaa.Nf
open P1 CatD ChP It Wid

/-! ## the lead -/

theorem eqo_open {d d' : D} (h : EqO d d') (hv : validD d.1 d.2.1 d.2.2.1 d.2.2.2 = true) (hv' : validD d'.1 d'.2.1 d'.2.2.1 d'.2.2.2 = true) : openD d'.1 d'.2.1 d'.2.2.1 d'.2.2.2 = openD d.1 d.2.1 d.2.2.1 d.2.2.2 := by
  have h1 := pick_last 40 d.1 d.2.1 d.2.2.1 d.2.2.2 (DocW.valid_ok hv)
  have h2 := pick_last 40 d'.1 d'.2.1 d'.2.2.1 d'.2.2.2 (DocW.valid_ok hv')
  rw [← h1, ← h2]
  have e : ctD d'.1 d'.2.2.2 = ctD d.1 d.2.2.2 := h.ct
  rw [e]
  exact h.pk _
theorem eqo_lead {d d' : D} (h : EqO d d') (hv : validD d.1 d.2.1 d.2.2.1 d.2.2.2 = true) (hv' : validD d'.1 d'.2.1 d'.2.2.1 d'.2.2.2 = true) : nD d'.1 d'.2.2.1 d'.2.2.2 = nD d.1 d.2.2.1 d.2.2.2 := by
  obtain ⟨i, s, r, e1, e2, _⟩ := DocW.open_lead 40 d.1 d.2.1 d.2.2.1 d.2.2.2 (DocW.valid_ok hv)
  obtain ⟨i', s', r', e1', e2', _⟩ := DocW.open_lead 40 d'.1 d'.2.1 d'.2.2.1 d'.2.2.2 (DocW.valid_ok hv')
  have e := eqo_open h hv hv'
  rw [e1, e1'] at e
  injection e with e _
  injection e with _ e
  rw [← e2, ← e2', e]

theorem fu_all {o n : Int} {t : ByteArray} {k : F} (h : (fuRes o n t k).1 = true) :
    validD o n t k = true ∧ validD (fuRes o n t k).2.1 (fuRes o n t k).2.2.1 (fuRes o n t k).2.2.2.1 (fuRes o n t k).2.2.2.2 = true ∧
    fuRes (fuRes o n t k).2.1 (fuRes o n t k).2.2.1 (fuRes o n t k).2.2.2.1 (fuRes o n t k).2.2.2.2 = fuRes o n t k ∧ CntC.opsD 2 (fuRes o n t k).2.1 (fuRes o n t k).2.2.2.2 ≤ CntC.opsD 2 o k ∧
    nD (fuRes o n t k).2.1 (fuRes o n t k).2.2.2.1 (fuRes o n t k).2.2.2.2 = nD o t k ∧
    laysD (fuRes o n t k).2.1 (fuRes o n t k).2.2.1 (fuRes o n t k).2.2.2.1 (fuRes o n t k).2.2.2.2 = laysD o n t k ∧ toldD (fuRes o n t k).2.1 (fuRes o n t k).2.2.1 (fuRes o n t k).2.2.2.1 (fuRes o n t k).2.2.2.2 = toldD o n t k := by
  obtain ⟨h1, h2, h3⟩ := ch_ok h
  have e : fuRes o n t k = (true, rowD fzR o n t k) := h3
  have hn := (valid_nice h1).1
  rw [e]
  have h2' : validD (rowD fzR o n t k).1 (rowD fzR o n t k).2.1 (rowD fzR o n t k).2.2.1 (rowD fzR o n t k).2.2.2 = true := h2
  have hq := (row_eqv fzR (fun o n t k h => (row_parts fzR_ok h).1) (fun P h1 h2 => fzR_eqo h1 h2) (.cons o n t k .nil) (nice_one' hn)).1
  have hq' : Eqv 0 (o, n, t, k) (rowD fzR o n t k) := hq
  refine ⟨h1, h2', ?_, ?_, ?_, ?_⟩
  · have ha := congrArg hd (fuse_again (.cons o n t k .nil) (nice_one' hn))
    have ha' : rowD fzR (rowD fzR o n t k).1 (rowD fzR o n t k).2.1 (rowD fzR o n t k).2.2.1 (rowD fzR o n t k).2.2.2 = rowD fzR o n t k := ha
    show chR (rowD fzR o n t k) (rowD fzR (rowD fzR o n t k).1 (rowD fzR o n t k).2.1 (rowD fzR o n t k).2.2.1 (rowD fzR o n t k).2.2.2) = _
    rw [ha']
    unfold chR
    rw [if_pos h2', if_pos h2']
  · have hc := (row_ops (fun x => x == 2) (by decide) (.cons o n t k .nil) (nice_one' hn)).2
    rw [pr_cons] at hc
    exact hc
  · exact eqo_lead (Eqv.eqo hq') h1 h2
  · exact lays_eqv hq' h1 h2

end Go.Proofs.Ytcpbhkgdeaanmaa.Nf

