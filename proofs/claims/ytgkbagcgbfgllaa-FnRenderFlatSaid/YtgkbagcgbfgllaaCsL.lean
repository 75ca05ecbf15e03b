import Derived.Test.YtgkbagcgbfgllaaCstB
import Derived.Test.YtgkbagcgbfgllaaChecked
import Derived.ProofKit
import Derived.Lib.SmallJoins
import Derived.Deep.Slices
/-
  The laws' helpers on costs, and a cost that comes in as an argument.
-/
set_option linter.unusedVariables false
set_option linter.unusedSimpArgs false
namespace Go.Proofs.Ytgkbagcgbfgllaa.Cst
open Go.RowKit Go.ChangeShapes Go.WideShapes Go.ChangeAt P1 TextV LayV LayW
theorem pair_one {W : World} {b : Nat} {u0 u1 u : Value} (h0 : W.cell? ⟨b, 0, none⟩ = some u0) (h1 : W.cell? ⟨b, 1, none⟩ = some u1) :
    (W.setCell ⟨b, 0, none⟩ u).cell? ⟨b, 0, none⟩ = some u ∧ (W.setCell ⟨b, 0, none⟩ u).cell? ⟨b, 1, none⟩ = some u1 :=
  ⟨World.cell?_setCell_same _ _ _ h0, by rw [World.cell?_setCell_other _ _ _ _ (by simp)]; exact h1⟩

section
variable {H : Type} {enc : TypeId × Value → H} {w : World} {base : Nat} {spare : Nat → Bool} {held : Bool}
theorem i64_of {x : Int} (h : (Lit.int .i64 x).wf = true) : -9223372036854775808 ≤ x ∧ x ≤ 9223372036854775807 := by
  have h1 : IntKind.i64.min = -9223372036854775808 := rfl
  have h3 : IntKind.i64.max = 9223372036854775807 := rfl
  simp only [Lit.wf, Bool.and_eq_true, decide_eq_true_eq] at h
  omega

end
end Go.Proofs.Ytgkbagcgbfgllaa.Cst

