import Derived.Test.YtclifbjnooilmaaGreatChecked
import Derived.ProofKit
import Derived.Lib.SmallJoins
import Derived.Deep.Slices
/-
 An int that comes in as an argument, opened.
-/
set_option linter.unusedVariables false
set_option linter.unusedSimpArgs false
set_option maxRecDepth 100000
namespace Go.Proofs.YtclifbjnooilmaaGreat.OpenN
open Go.RowKit Go.ChangeShapes Go.WideShapes Go.ChangeAt
variable {H : Type} {enc : TypeId × Value → H} {w : World} {base : Nat} {spare : Nat → Bool} {held : Bool}
theorem open_int {r : Reach} {b0 : Nat} {v : Value} {d : DataW H} {p : List MemPlace} (hv : Value.okWide Tryz.prog w r b0 3 v) (h : DataW.Trod enc Tryz.prog w base spare held 3 v d p) :
  ∃ x : Int, v = .int .i64 x ∧ (-9223372036854775808 ≤ x ∧ x ≤ 9223372036854775807) := by
 obtain ⟨x, rfl⟩ := okWide_int Tryz.underlying3 hv
 obtain ⟨fuel, hf⟩ := h
 have hf : DataW.trod enc Tryz.prog w base spare held fuel 3 [.int .i64 x] = some (d, p) := hf
 obtain ⟨n, q0, _, hw⟩ := DataW.trod_int Tryz.underlying3 hf
 simp only [List.cons.injEq, and_true, Value.int.injEq, true_and] at q0
 subst q0
 have h1 : IntKind.i64.min = -9223372036854775808 := rfl
 have h3 : IntKind.i64.max = 9223372036854775807 := rfl
 simp only [Lit.wf, Bool.and_eq_true, decide_eq_true_eq] at hw
 exact ⟨x, rfl, by omega⟩
end Go.Proofs.YtclifbjnooilmaaGreat.OpenN
