import Derived.Test.YtgkbagcgbfgllaaLayW
/-
  What LayoutWidth and Overflow of the program and of the model come to, over the lines.
-/
set_option linter.unusedVariables false
set_option linter.unusedSimpArgs false
namespace Go.Proofs.Ytgkbagcgbfgllaa.LayW
open Go.RowKit P1 TextV LayV
/-- the text of a line, by its bytes alone -/
theorem lineW (n : Int) (t : ByteArray) (h0 : 0 ≤ n) (h1 : n ≤ 400) (ht : t.size < 2000) : ∃ (s : ByteArray) (z : Int), rowW (n, t) = z ∧ (s.size : Int) = z ∧ 0 ≤ z ∧ z ≤ 2399 ∧ s.size ≤ 2399 ∧ ∀ W : World, Calls Try.prog 97 #[.agg #[.int .i64 n, .string t]] W fun e w' => e = .returned (.string s) ∧ Below W.heap.size W w' := by
  have hs := ln_size (t := t) h0
  have hb : 0 ≤ rowW (n, t) ∧ rowW (n, t) ≤ 2399 := by unfold rowW; split <;> simp <;> omega
  exact ⟨ln n t, rowW (n, t), rfl, hs, hb.1, hb.2, by omega, fun W => l2Line n t h0 (by omega) (by omega) W⟩

end Go.Proofs.Ytgkbagcgbfgllaa.LayW

