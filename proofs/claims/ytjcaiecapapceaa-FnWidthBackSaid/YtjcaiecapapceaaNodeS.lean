import Derived.Test.YtjcaiecapapceaaPl
import Derived.Test.YtjcaiecapapceaaChecked
import Derived.Outline
/-
 What impl.nodeSame and impl.kidListOf come to.
-/
set_option linter.unusedVariables false
set_option linter.unusedSimpArgs false
set_option maxHeartbeats 800000
namespace Go.Proofs.Ytjcaiecapapceaa.NodeS
open Go.RowKit
theorem kidListOf (w : World) (b off l cap : Nat) (h0 : 0 < l) (hl : l ≤ maxLen) :
  Calls Try.prog 45 #[.slice (some ⟨b, off, none⟩) l cap] w fun e w' => e = .returned (lkV (b, off, l)) ∧ Below w.heap.size w w' := by
 have i0 : (0 : Int) < (l : Int) := by omega
 unfold maxLen at hl
 go_enter Try.func45, Try.ntmps45
 go_wp2_with fail
 refine bodyPost_ret (v := .agg #[.pointer (some ⟨b, off, none⟩), .int .i64 l]) (by simp [results, Try.results45, go_sem]) rfl ?_
 refine ⟨rfl, ?_⟩
 repeat (first | exact Below.refl _ _ | exact (Below.refl _ _).alloc (Nat.le_refl _) _ | refine Below.setCell ?_ (by simp) _)
end Go.Proofs.Ytjcaiecapapceaa.NodeS
