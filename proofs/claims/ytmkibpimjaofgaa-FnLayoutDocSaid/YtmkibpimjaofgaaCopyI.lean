import Derived.Test.YtmkibpimjaofgaaDrY
/-
  What the program's copyDoc comes to (beside CopyB): the same document in new memory.
-/
set_option linter.unusedVariables false
set_option linter.unusedSimpArgs false
namespace Go.Proofs.Ytmkibpimjaofgaa.Copy
open Go.RowKit P1
set_option maxHeartbeats 400000 in
theorem clone (s : ByteArray) (w : World) (h : s.size ≤ 281474976710656) : Calls Try.prog 128 #[.string s] w fun e w' => e = .returned (.string s) ∧ Below w.heap.size w w' := by
  go_enter Try.func128, Try.ntmps128
  go_wp2_with fail
  refine (Try.stringslite_Clone s _ h).mono ?_
  rintro e w' ⟨rfl, hb⟩
  go_wp2_with fail
  go_ret
  exact ⟨rfl, hb⟩

end Go.Proofs.Ytmkibpimjaofgaa.Copy

