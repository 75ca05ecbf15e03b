import Derived.Test.YtjcaiecapapceaaNfB
import Derived.Test.YtjcaiecapapceaaCntC
/-
 PushNest of the program: inNests, pushInto, pushNest, PushNest.
-/
set_option linter.unusedVariables false
set_option linter.unusedSimpArgs false
namespace Go.Proofs.Ytjcaiecapapceaa.Nf
open Go.RowKit P1 Copy CatD
end Go.Proofs.Ytjcaiecapapceaa.Nf
namespace Go.Proofs.Ytjcaiecapapceaa.Nf
open Go.RowKit P1 Copy CatD
theorem isNew_yes (W : World) (x : Int) (h : x = 3 ∨ x = 4 ∨ x = 5) : Calls Try.prog 98 #[.int .i64 x] W fun e w' => e = .returned (.bool true) ∧ w' = W := by
 rcases h with rfl | rfl | rfl
 all_goals
  go_enter Try.func98, Try.ntmps98
  go_wp2_with fail
  go_ret
  exact ⟨rfl, rfl⟩
theorem isNew_no (W : World) (x : Int) (h3 : x ≠ 3) (h4 : x ≠ 4) (h5 : x ≠ 5) : Calls Try.prog 98 #[.int .i64 x] W fun e w' => e = .returned (.bool false) ∧ w' = W := by
 have q3 : (x == 3) = false := by rw [beq_eq_false_iff_ne]; exact h3
 have q4 : (x == 4) = false := by rw [beq_eq_false_iff_ne]; exact h4
 have q5 : (x == 5) = false := by rw [beq_eq_false_iff_ne]; exact h5
 go_enter Try.func98, Try.ntmps98
 go_wp2_with fail
 go_ret
 exact ⟨rfl, rfl⟩
end Go.Proofs.Ytjcaiecapapceaa.Nf
namespace Go.Proofs.Ytjcaiecapapceaa.Nf
open Go.RowKit P1 Copy CatD
end Go.Proofs.Ytjcaiecapapceaa.Nf
namespace Go.Proofs.Ytjcaiecapapceaa.Nf
open Go.RowKit P1 Copy CatD
end Go.Proofs.Ytjcaiecapapceaa.Nf
namespace Go.Proofs.Ytjcaiecapapceaa.Nf
open Go.RowKit P1 Copy CatD
end Go.Proofs.Ytjcaiecapapceaa.Nf
namespace Go.Proofs.Ytjcaiecapapceaa.Nf
open P1 CatD
end Go.Proofs.Ytjcaiecapapceaa.Nf
