import Derived.Test.YtgcaolofehgbeaaPl
import Derived.Test.YtgcaolofehgbeaaChecked
import Derived.Outline
/-
  What impl.nodeSame and impl.kidListOf come to.
-/
set_option linter.unusedVariables false
set_option linter.unusedSimpArgs false
namespace Go.Proofs.Ytgcaolofehgbeaa.NodeS
open Go.RowKit

theorem ret_bool {a b : Bool} (h : a = b) : Ending.returned (.bool a) = .returned (.bool b) := by rw [h]

/-- equal but for what their Kids are, as a test -/
def nodeT (o n : Int) (t : ByteArray) (l : Nat) (o' n' : Int) (t' : ByteArray) (l' : Nat) : Bool := decide (o = o') && decide (n = n') && decide (t = t') && decide (l = l')

theorem nodeT_iff {o n : Int} {t : ByteArray} {k : F} {o' n' : Int} {t' : ByteArray} {k' : F} : nodeT o n t k.len o' n' t' k'.len = true ↔ nodeEq (o, n, t, k) (o', n', t', k') := by
  simp [nodeT, nodeEq, and_assoc]

set_option maxHeartbeats 800000 in
theorem kidListOf (w : World) (b off l cap : Nat) (h0 : 0 < l) (hl : l ≤ maxLen) :
    Calls Try.prog 163 #[.slice (some ⟨b, off, none⟩) l cap] w fun e w' => e = .returned (lkV (b, off, l)) ∧ Below w.heap.size w w' := by
  have i0 : (0 : Int) < (l : Int) := by omega
  unfold maxLen at hl
  go_enter Try.func163, Try.ntmps163
  go_wp2_with fail
  refine bodyPost_ret (v := .agg #[.pointer (some ⟨b, off, none⟩), .int .i64 l]) (by simp [results, Try.results163, go_sem]) rfl ?_
  refine ⟨rfl, ?_⟩
  repeat (first | exact Below.refl _ _ | exact (Below.refl _ _).alloc (Nat.le_refl _) _ | refine Below.setCell ?_ (by simp) _)

end Go.Proofs.Ytgcaolofehgbeaa.NodeS

