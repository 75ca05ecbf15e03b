import Derived.Test.YtjcaiecapapceaaGreatLwA
import Derived.ProofKit
import Derived.Lib.SmallJoins
import Derived.Deep.Slices
/-
 What CompareCosts and CostOf of the program and of the model come to.
-/
set_option linter.unusedVariables false
set_option linter.unusedSimpArgs false
set_option maxRecDepth 100000
namespace Go.Proofs.YtjcaiecapapceaaGreat.Cst
open Go.RowKit P1 TextV LayV LayW
def wv (x : Int) : Bool := decide (0 ≤ x) && decide (x ≤ 200)
theorem widthValid (x : Int) (w : World) : Calls Tryz.prog 82 #[.int .i64 x] w fun e w' => e = .returned (.bool (wv x)) ∧ w' = w := by
 by_cases h0 : 0 ≤ x
 ·by_cases h1 : x ≤ 200
  ·have HF := Lib.hid (show wv x = true by simp [wv, h0, h1])
   go_enter Tryz.func82, Tryz.ntmps82
   go_wp2_with fail
   go_ret
   exact ⟨by rw [HF.out]; rfl, rfl⟩
  ·have HF := Lib.hid (show wv x = false by simp [wv, h1])
   go_enter Tryz.func82, Tryz.ntmps82
   go_wp2_with fail
   go_ret
   exact ⟨by rw [HF.out]; rfl, rfl⟩
 ·have HF := Lib.hid (show wv x = false by simp [wv, h0])
  go_enter Tryz.func82, Tryz.ntmps82
  go_wp2_with fail
  go_ret
  exact ⟨by rw [HF.out]; rfl, rfl⟩
end Go.Proofs.YtjcaiecapapceaaGreat.Cst
namespace Go.Proofs.YtjcaiecapapceaaGreat.Cst
open Go.RowKit P1 TextV LayV LayW
end Go.Proofs.YtjcaiecapapceaaGreat.Cst
namespace Go.Proofs.YtjcaiecapapceaaGreat.Cst
open Go.RowKit Go.ChangeShapes Go.WideShapes Go.ChangeAt P1 TextV LayV LayW
section
variable {H : Type} {enc : TypeId × Value → H} {w : World} {base : Nat} {spare : Nat → Bool} {held : Bool}
end
end Go.Proofs.YtjcaiecapapceaaGreat.Cst
