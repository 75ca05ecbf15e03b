import Derived.Test.YtlhdoifjhoocfaaCntN
import Derived.Test.YtlhdoifjhoocfaaSpV
/-
  What DocSize, CountOps and CanFlatten come to, of the program and of the model.
-/
set_option linter.unusedVariables false
set_option linter.unusedSimpArgs false
namespace Go.Proofs.Ytlhdoifjhoocfaa.CntC
open Go.RowKit P1 Cnt

theorem ret_int {k : IntKind} {a b : Int} (h : a = b) : Ending.returned (.int k a) = .returned (.int k b) := by rw [h]
theorem ret_bool {a b : Bool} (h : a = b) : Ending.returned (.bool a) = .returned (.bool b) := by rw [h]

theorem nodes_cnt (f : F) : nodes f = f.cnt := by
  induction f with
  | nil => rfl
  | cons o n t k r ihk ihr => rw [nodes_cons, ihk, ihr]; rfl

/-- how many nodes of a document are of a kind -/
def opsD (op : Int) (o : Int) (k : F) : Nat := cntF (fun x => x == op) (.cons o 0 ⟨#[]⟩ k .nil)
theorem opsD_eq (op o : Int) (k : F) : opsD op o k = (if o == op then 1 else 0) + cntF (fun x => x == op) k := by
  unfold opsD; simp [cntF]
theorem opsD_any (op o n : Int) (t : ByteArray) (k : F) : cntF (fun x => x == op) (.cons o n t k .nil) = opsD op o k := rfl

theorem opsD_app {op o : Int} {p : F} {o1 n1 : Int} {t1 : ByteArray} {k1 r1 : F} : opsD op o (p.app (.cons o1 n1 t1 k1 r1)) = opsD op o p + opsD op o1 k1 + cntF (fun x => x == op) r1 := by
  rw [opsD_eq, opsD_eq, opsD_eq, cntF_app]; simp only [cntF]; omega

/-- a document can be flattened -/
def canD (o n : Int) (t : ByteArray) (k : F) : Bool := validD o n t k && decide (opsD 5 o k = 0)

end Go.Proofs.Ytlhdoifjhoocfaa.CntC

