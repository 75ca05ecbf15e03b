import Derived.Test.YtmkibpimjaofgaaRnR
/-
  The layout in a width.
-/
set_option linter.unusedVariables false
set_option linter.unusedSimpArgs false
namespace Go.Proofs.Ytmkibpimjaofgaa.RnV
open Go.RowKit Go.Shelf P1 Cnt CntC Flat Wid ChP Rn Bwd RnM Rq RnR

/-- the layout in a width -/
def lyW (o n : Int) (t : ByteArray) (k : F) (w : Nat) : Lay := (stD (w : Int) o n t k).fin
theorem right_w {o n : Int} {t : ByteArray} {k : F} (h : validD o n t k = true) {j : Nat} (hj : j ≤ 200) : rightD (j : Int) o n t k = true := by
  have h1 : (0 : Int) ≤ (j : Int) := by omega
  have h2 : (j : Int) ≤ 200 := by omega
  simp [rightD, h, h2]
theorem ly_len {o n : Int} {t : ByteArray} {k : F} (h : validD o n t k = true) (j : Nat) : (lyW o n t k j).length ≤ maxLen := by
  have := (lv_len (rn_lv (j : Int) h)).2
  show (stD (j : Int) o n t k).fin.length ≤ maxLen
  unfold maxLen; omega
theorem own_lw {W : World} {o n : Int} {t : ByteArray} {k : F} {j B g cp : Nat} (h : W.ownsRow B 74 2 (.slice (some ⟨g, 0, none⟩) ((stD ((j : Nat) : Int) o n t k).rows.length + 1) cp) ((stD ((j : Nat) : Int) o n t k).rows.length + 1) (LayN.cells2 (stD ((j : Nat) : Int) o n t k).fin)) : W.ownsRow B 74 2 (.slice (some ⟨g, 0, none⟩) ((stD ((j : Nat) : Int) o n t k).rows.length + 1) cp) (lyW o n t k j).length (LayN.cells2 (lyW o n t k j)) := by
  rw [show (lyW o n t k j).length = (stD ((j : Nat) : Int) o n t k).rows.length + 1 by simp [lyW, St.fin]]; exact h
end Go.Proofs.Ytmkibpimjaofgaa.RnV

