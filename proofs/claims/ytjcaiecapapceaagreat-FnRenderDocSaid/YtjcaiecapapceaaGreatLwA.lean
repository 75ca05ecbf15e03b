import Derived.Test.YtjcaiecapapceaaGreatLyX
/-
 What LayoutWidth and Overflow of the program and of the model come to.
-/
set_option linter.unusedVariables false
set_option linter.unusedSimpArgs false
namespace Go.Proofs.YtjcaiecapapceaaGreat.LayW
open Go.RowKit P1 TextV LayV
theorem bytes_none {t : ByteArray} (h : t.size = 0) : t = ⟨#[]⟩ := by
 apply ByteArray.ext
 apply Array.eq_empty_of_size_eq_zero
 exact h
theorem bytes_some {t : ByteArray} (h : t.size ≠ 0) : (t.toList == ([] : List UInt8)) = false ∧ t.toList.isEmpty = false := by
 have e : t.toList ≠ [] := by
  rw [Lib.toList_data]
  intro e
  have := congrArg List.length e
  simp at this
  exact h (by rw [this]; rfl)
 exact ⟨by simpa using e, by simpa using e⟩
end Go.Proofs.YtjcaiecapapceaaGreat.LayW
namespace Go.Proofs.YtjcaiecapapceaaGreat.LayW
open Go.RowKit P1 TextV LayV
end Go.Proofs.YtjcaiecapapceaaGreat.LayW
namespace Go.Proofs.YtjcaiecapapceaaGreat.LayW
open Go.RowKit P1 TextV LayV
end Go.Proofs.YtjcaiecapapceaaGreat.LayW
