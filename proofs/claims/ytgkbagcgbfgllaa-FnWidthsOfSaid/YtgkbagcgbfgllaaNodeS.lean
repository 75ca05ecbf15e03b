import Derived.Test.YtgkbagcgbfgllaaPl
import Derived.Test.YtgkbagcgbfgllaaChecked
import Derived.Outline
/-
  What impl.nodeSame and impl.kidListOf come to.
-/
set_option linter.unusedVariables false
set_option linter.unusedSimpArgs false
namespace Go.Proofs.Ytgkbagcgbfgllaa.NodeS
open Go.RowKit

theorem ret_bool {a b : Bool} (h : a = b) : Ending.returned (.bool a) = .returned (.bool b) := by rw [h]

set_option maxHeartbeats 800000 in
theorem kidListOf (w : World) (b off l cap : Nat) (h0 : 0 < l) (hl : l ≤ maxLen) :
    Calls Try.prog 91 #[.slice (some ⟨b, off, none⟩) l cap] w fun e w' => e = .returned (lkV (b, off, l)) ∧ Below w.heap.size w w' := by
  have i0 : (0 : Int) < (l : Int) := by omega
  unfold maxLen at hl
  go_enter Try.func91, Try.ntmps91
  go_wp2_with fail
  refine bodyPost_ret (v := .agg #[.pointer (some ⟨b, off, none⟩), .int .i64 l]) (by simp [results, Try.results91, go_sem]) rfl ?_
  refine ⟨rfl, ?_⟩
  repeat (first | exact Below.refl _ _ | exact (Below.refl _ _).alloc (Nat.le_refl _) _ | refine Below.setCell ?_ (by simp) _)

end Go.Proofs.Ytgkbagcgbfgllaa.NodeS

