import Derived.Test.YtgkbagcgbfgllaaDcK
/-
  The lines of a layout that stays.
-/
set_option linter.unusedVariables false
set_option linter.unusedSimpArgs false
namespace Go.Proofs.Ytgkbagcgbfgllaa.DocF2
open Go.RowKit P1

theorem lay_get {w : World} {X : List (Int × ByteArray)} {a : Option Addr} {c : Nat} (h : DocO.LayIs w X a c) {j : Nat} (hj : j < X.length) : ∃ (b off : Nat), a = some ⟨b, off, none⟩ ∧ b < w.heap.size ∧ w.cell? ⟨b, off + j * 2, none⟩ = some (.int .i64 X[j].1) ∧ w.cell? ⟨b, off + j * 2 + 1, none⟩ = some (.string X[j].2) := by
  obtain ⟨fs, hs⟩ := h.sub
  rcases hs with ⟨h0, _⟩ | ⟨b, off, rfl, hn, _, hr⟩
  · rw [h0] at hj; simp at hj
  · exact ⟨b, off, rfl, hr.lt hn, hr j hj⟩

theorem sameB {w : World} {X X' : List (Int × ByteArray)} {a a' : Option Addr} {c c' : Nat} (h : DocO.LayIs w X a c) (h' : DocO.LayIs w X' a' c') : Calls Try.prog 17 #[.slice a X.length c, .slice a' X'.length c'] w fun e w' => e = .returned (.bool (decide (X = X'))) ∧ Ext w w' := by
  obtain ⟨f, hs⟩ := h.sub
  obtain ⟨f', hs'⟩ := h'.sub
  exact LaySm.implLayoutSame X X' w a c f hs a' c' f' hs' h.cap_le h'.cap_le h.fits.2 h'.fits.2


end Go.Proofs.Ytgkbagcgbfgllaa.DocF2

