import Derived.Test.YtcealfjkcbaelaaLyA
import Derived.ArgAppend
import Derived.Deep.QuietTactic
import Derived.Laws.StructEq
import Derived.BigQuiet
/-
  What CatLayouts of the program and of the model come to: the joining of two layouts.
-/
set_option linter.unusedVariables false
set_option linter.unusedSimpArgs false
namespace Go.Proofs.Ytcealfjkcbaelaa.LayC
open Go.RowKit P1 TextV LayL LayV LayM LayN

/-- a layout in a row of the call's own, with room up to cap -/
structure Own (w : World) (l : List (Int × ByteArray)) (g cap lo : Nat) : Prop where
  row : LayAt w l g 0
  th : w.there g 0 (cap * 2)
  le : l.length ≤ cap
  lo_le : lo ≤ g
  lt : g < w.heap.size
  fz : ∀ o, w.frozen? ⟨g, o, none⟩ = false
theorem Own.below {w w' : World} {l : List (Int × ByteArray)} {g cap lo : Nat} (h : Own w l g cap lo) (k : Below w.heap.size w w') : Own w' l g cap lo :=
  ⟨h.row.below h.lt k, there_below h.th h.lt k, h.le, h.lo_le, Nat.lt_of_lt_of_le h.lt k.size, fun o => (k.frozen (p := ⟨g, o, none⟩) h.lt).trans (h.fz o)⟩
theorem Own.drew {w : World} {l : List (Int × ByteArray)} {g cap lo : Nat} (h : Own w l g cap lo) : Own w.drew l g cap lo := h.below (Below.refl _ _).drew
theorem Own.only {gs : List Nat} {w w' : World} {l : List (Int × ByteArray)} {g cap lo : Nat} (h : Own w l g cap lo) (k : Only gs w w') (hg : g ∉ gs) : Own w' l g cap lo :=
  ⟨h.row.congr fun o _ _ => k.cell h.lt hg o, fun j hj => ⟨by rw [k.cell h.lt hg]; exact (h.th j hj).1, by rw [k.frozen h.lt]; exact (h.th j hj).2⟩, h.le, h.lo_le, Nat.lt_of_lt_of_le h.lt k.size, fun o => (k.frozen h.lt o).trans (h.fz o)⟩
theorem cells2_app (l k : List (Int × ByteArray)) : cells2 (l ++ k) = cells2 l ++ cells2 k := by
  induction l with
  | nil => rfl
  | cons r l ih => simp [cells2, ih]

end Go.Proofs.Ytcealfjkcbaelaa.LayC

/-
  What CatLayouts of the program and of the model come to: the model's joining, and the results.
-/
set_option linter.unusedVariables false
set_option linter.unusedSimpArgs false
namespace Go.Proofs.Ytcealfjkcbaelaa.LayC
open Go.RowKit P1 TextV LayL LayV LayM LayN
end Go.Proofs.Ytcealfjkcbaelaa.LayC

/-
  What LayoutSame of the program and of the model come to.
-/
set_option linter.unusedVariables false
set_option linter.unusedSimpArgs false
namespace Go.Proofs.Ytcealfjkcbaelaa.LaySm
open Go.RowKit LayL
end Go.Proofs.Ytcealfjkcbaelaa.LaySm

