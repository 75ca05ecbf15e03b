import Derived.Test.YtcealfjkcbaelaaPl
import Derived.Test.YtcealfjkcbaelaaWid
/-
  How many choices a document has, and the layouts of its choices, as plain functions; nothing here speaks of the program.
-/
set_option linter.unusedVariables false
set_option linter.unusedSimpArgs false
namespace Go.Proofs.Ytcealfjkcbaelaa.ChP
open Go.RowKit P1 Cnt CntC Flat Wid

abbrev Lay := List (Int × ByteArray)

/-- the choices of a list's documents, multiplied -/
def ctF : F → Nat
  | .nil => 1
  | .cons o _ _ k r => (if o == 8 && noF k then ctF k + 1 else ctF k) * ctF r
/-- the choices of a document -/
def ctD (o : Int) (k : F) : Nat := if o == 8 && noF k then ctF k + 1 else ctF k
/-- the second document's choices -/
def c2 : F → Nat
  | .cons _ _ _ _ (.cons o _ _ k _) => ctD o k
  | _ => 1
theorem okD_parts {d : Nat} {o n : Int} {t : ByteArray} {k : F} (h : okD (d + 1) o n t k = true) : nodeB o n t k.len = true ∧ k.ok d = true := by
  simp only [okD, Bool.and_eq_true, decide_eq_true_eq] at h
  obtain ⟨⟨_, hn⟩, hk⟩ := h
  rw [show d + 1 - 1 = d by omega] at hk
  exact ⟨hn, hk⟩

end Go.Proofs.Ytcealfjkcbaelaa.ChP

