import Derived.Test.YtjcaiecapapceaaGreatPl
import Derived.Test.YtjcaiecapapceaaGreatChecked
import Derived.Outline
/-
 What impl.nodeSame and impl.kidListOf come to.
-/
set_option linter.unusedVariables false
set_option linter.unusedSimpArgs false
set_option maxHeartbeats 800000
namespace Go.Proofs.YtjcaiecapapceaaGreat.NodeS
open Go.RowKit
theorem kidListOf (w : World) (b off l cap : Nat) (h0 : 0 < l) (hl : l ≤ maxLen) :
  Calls Tryz.prog 62 #[.slice (some ⟨b, off, none⟩) l cap] w fun e w' => e = .returned (lkV (b, off, l)) ∧ Below w.heap.size w w' := by
 have i0 : (0 : Int) < (l : Int) := by omega
 unfold maxLen at hl
 go_enter Tryz.func62, Tryz.ntmps62
 go_wp2_with fail
 refine bodyPost_ret (v := .agg #[.pointer (some ⟨b, off, none⟩), .int .i64 l]) (by simp [results, Tryz.results62, go_sem]) rfl ?_
 refine ⟨rfl, ?_⟩
 repeat (first | exact Below.refl _ _ | exact (Below.refl _ _).alloc (Nat.le_refl _) _ | refine Below.setCell ?_ (by simp) _)
end Go.Proofs.YtjcaiecapapceaaGreat.NodeS
