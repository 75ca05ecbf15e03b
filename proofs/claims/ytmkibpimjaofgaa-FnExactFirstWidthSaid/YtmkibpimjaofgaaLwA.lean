import Derived.Test.YtmkibpimjaofgaaPl
import Derived.Test.YtmkibpimjaofgaaLyA
import Derived.Deep.QuietTactic
import Derived.BigQuiet
/-
  What LayoutWidth and Overflow of the program and of the model come to.
-/
set_option linter.unusedVariables false
set_option linter.unusedSimpArgs false
namespace Go.Proofs.Ytmkibpimjaofgaa.LayW
open Go.RowKit P1 TextV LayV

theorem ret_int {k : IntKind} {a b : Int} (h : a = b) : Ending.returned (.int k a) = .returned (.int k b) := by rw [h]
theorem ret_str {a b : ByteArray} (h : a = b) : Ending.returned (.string a) = .returned (.string b) := by rw [h]
theorem bytes_none {t : ByteArray} (h : t.size = 0) : t = ⟨#[]⟩ := by
  apply ByteArray.ext
  apply Array.eq_empty_of_size_eq_zero
  exact h
theorem bytes_some {t : ByteArray} (h : t.size ≠ 0) : (t.toList == ([] : List UInt8)) = false ∧ t.toList.isEmpty = false := by
  have e : t.toList ≠ [] := by
    rw [Lib.toList_data]
    intro e
    have := congrArg List.length e
    simp at this
    exact h (by rw [this]; rfl)
  exact ⟨by simpa using e, by simpa using e⟩

theorem below_drewN' {B : Nat} {a w : World} (h : Below B a w) (n : Nat) : Below B a (w.drewN n) := by
  induction n with
  | zero => exact h
  | succ n ih => exact ih.drew

end Go.Proofs.Ytmkibpimjaofgaa.LayW

/-
  What LayoutWidth and Overflow of the program and of the model come to, over the lines.
-/
set_option linter.unusedVariables false
set_option linter.unusedSimpArgs false
namespace Go.Proofs.Ytmkibpimjaofgaa.LayW
open Go.RowKit P1 TextV LayV
end Go.Proofs.Ytmkibpimjaofgaa.LayW

/-
  What Overflow of the program and of the model comes to.
-/
set_option linter.unusedVariables false
set_option linter.unusedSimpArgs false
namespace Go.Proofs.Ytmkibpimjaofgaa.LayW
open Go.RowKit P1 TextV LayV
end Go.Proofs.Ytmkibpimjaofgaa.LayW

